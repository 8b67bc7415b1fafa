/- The reference's Steps of layer 3: how far each node is from another one, by relaxing until nothing changes. -/
import Derived.Test.YtoeojhabhnoojaaDoorNetWp
namespace Go.Proofs.YtoeojhabhnoojaaDoor.net
open Go.RowKit lex aggs kit deck

/-- what is left to relax -/
def ps (F : Nat → Int) : Nat → Nat
  | 0 => 0
  | n + 1 => ps F n + if F n < 0 then 33 else (F n).toNat
theorem ps_congr {F F' : Nat → Int} {n : Nat} (h : ∀ v, v < n → F v = F' v) : ps F n = ps F' n := by
  induction n with
  | zero => rfl
  | succ n ih => rw [ps, ps, ih (fun v hv => h v (by omega)), h n (by omega)]
theorem ps_upd {F : Nat → Int} {N u : Nat} {x : Int} (hu : u < N) (hx0 : 0 ≤ x) (h : F u < 0 ∧ x < 33 ∨ x < F u) : ps (upd F u x) N + 1 ≤ ps F N := by
  induction N with
  | zero => cases hu
  | succ n ih =>
    rw [ps, ps]
    by_cases e : u = n
    · subst e
      rw [ps_congr (F := upd F u x) (F' := F) (fun v hv => upd_ne F x (by omega)), upd_eq]
      rcases h with ⟨h1, h2⟩ | h1
      · rw [if_pos h1, if_neg (by omega)]; omega
      · rw [if_neg (show ¬ x < 0 by omega), if_neg (by omega)]; omega
    · have := ih (by omega)
      rw [upd_ne F x (show n ≠ u by omega)]; omega
/-- the same, read out of memory -/
def psW (w : World) (z : Nat) : Nat → Nat
  | 0 => 0
  | n + 1 => psW w z n + match w.cell? ⟨z, n, none⟩ with
    | some (.int _ x) => if x < 0 then 33 else x.toNat
    | _ => 0
theorem psW_is {w : World} {z N : Nat} {F : Nat → Int} (h : Cnts w z N F) : ∀ n, n ≤ N → psW w z n = ps F n := by
  intro n
  induction n with
  | zero => intro _; rfl
  | succ n ih => intro hn; rw [psW, ps, ih (by omega), (h.get (t := n) (by omega)).1]
def chN : Value → Nat
  | .bool true => 1
  | _ => 0
def ch1 (ch : Bool) : Nat := if ch = true then 1 else 0
theorem chN_is (ch : Bool) : chN (.bool ch) = ch1 ch := by cases ch <;> rfl

structure SI (G : Nat → Nat → Int) (M N to : Nat) (F : Nat → Int) : Prop where
  goal : to < N
  zero : F to = 0
  only : ∀ v, v < N → F v = 0 → v = to
  low : ∀ v, v < N → -1 ≤ F v
  back : ∀ v, v < N → 1 ≤ F v → ∃ i, i < M ∧ ∃ u : Nat, u < N ∧ G i v = u ∧ 0 ≤ F u ∧ F u ≤ F v - 1
  hi : ∀ v, v < N → F v + 1 ≤ ct (fun v => decide (0 ≤ F v)) N
theorem SI.le {G : Nat → Nat → Int} {M N to : Nat} {F : Nat → Int} (h : SI G M N to F) (v : Nat) (hv : v < N) : F v + 1 ≤ N := by
  have := h.hi v hv
  have := ct_le (fun v => decide (0 ≤ F v)) N
  omega
theorem SI.start {G : Nat → Nat → Int} {M N to : Nat} (F : Nat → Int) (ht : to < N) (hF : F to = 0) (hF' : ∀ v, v < N → v ≠ to → F v = -1) : SI G M N to F where
  goal := ht
  zero := hF
  only := fun v hv e => by
    by_cases h : v = to
    · exact h
    · have := hF' v hv h; omega
  low := fun v hv => by
    by_cases h : v = to
    · subst h; omega
    · have := hF' v hv h; omega
  back := fun v hv h1 => by
    by_cases h : v = to
    · subst h; omega
    · have := hF' v hv h; omega
  hi := fun v hv => by
    have e : ct (fun v => decide (0 ≤ F v)) N = 1 := by
      refine ct_single ht (by simp [hF]) (fun u hu hne => ?_)
      have := hF' u hu hne
      exact decide_eq_false (by omega)
    rw [e]
    by_cases h : v = to
    · subst h; omega
    · have := hF' v hv h; omega
theorem SI.relax {G : Nat → Nat → Int} {M N to : Nat} {F : Nat → Int} {i v u : Nat} (hG : Sym G M N) (h : SI G M N to F) (hi : i < M) (hv : v < N) (hu : u < N) (e : G i v = u) (h0 : 0 ≤ F v) (hc : F u < 0 ∨ F v + 1 < F u) :
    SI G M N to (upd F u (F v + 1)) := by
  have hvu : v ≠ u := fun e => by subst e; omega
  have eu : upd F u (F v + 1) u = F v + 1 := upd_eq _ _ _
  have en : ∀ x, x ≠ u → upd F u (F v + 1) x = F x := fun x hx => upd_ne _ _ hx
  have mono : ∀ x, x < N → (fun v => decide (0 ≤ F v)) x = true → (fun x => decide (0 ≤ upd F u (F v + 1) x)) x = true := fun x _ hx => by
    have := of_decide_eq_true hx
    refine decide_eq_true ?_
    by_cases ex : x = u
    · subst ex; rw [eu]; omega
    · rw [en x ex]; exact this
  have hm := ct_mono mono
  refine { goal := h.goal, zero := ?_, only := ?_, low := ?_, back := ?_, hi := ?_ }
  · have : to ≠ u := fun e => by have := h.zero; rw [e] at this; omega
    rw [en to this]; exact h.zero
  · intro x hx e0
    by_cases ex : x = u
    · subst ex; rw [eu] at e0; omega
    · rw [en x ex] at e0; exact h.only x hx e0
  · intro x hx
    by_cases ex : x = u
    · subst ex; rw [eu]; omega
    · rw [en x ex]; exact h.low x hx
  · intro x hx h1
    by_cases ex : x = u
    · subst ex
      exact ⟨i, hi, v, hv, hG.turn hi hv e, by rw [en v hvu]; exact h0, by rw [en v hvu, eu]; omega⟩
    · rw [en x ex] at h1 ⊢
      obtain ⟨k, hk, y, hy, e1, e2, e3⟩ := h.back x hx h1
      refine ⟨k, hk, y, hy, e1, ?_⟩
      by_cases ey : y = u
      · subst ey; rw [eu]; omega
      · rw [en y ey]; exact ⟨e2, e3⟩
  · intro x hx
    by_cases ex : x = u
    · subst ex
      rw [eu]
      rcases hc with hc | hc
      · have := ct_more mono hu (decide_eq_false (by omega)) (decide_eq_true (by rw [eu]; omega))
        have := h.hi v hv
        omega
      · have := h.hi x hx
        omega
    · rw [en x ex]
      have := h.hi x hx
      omega
def FixTo (G : Nat → Nat → Int) (N : Nat) (F : Nat → Int) (j : Nat) : Prop := ∀ i, i < j → ∀ v, v < N → 0 ≤ F v → ∀ u : Nat, u < N → G i v = u → 0 ≤ F u ∧ F u ≤ F v + 1
theorem SI.dist {G : Nat → Nat → Int} {M N to : Nat} {F : Nat → Int} (hG : Sym G M N) (h : SI G M N to F) (hf : FixTo G N F M) : IsDist G M N to F where
  goal := h.goal
  zero := h.zero
  only := h.only
  low := h.low
  back := fun v hv h1 => by
    obtain ⟨i, hi, u, hu, e1, e2, e3⟩ := h.back v hv h1
    have := hf i hi u hu e2 v hv (hG.turn hi hv e1)
    exact ⟨i, hi, u, hu, e1, by omega⟩
  step := fun v hv h0 i hi u hu e => hf i hi v hv h0 u hu e
theorem FixTo.none {G : Nat → Nat → Int} {N : Nat} {F : Nat → Int} {j : Nat} (h : FixTo G N F j) (e : ∀ v, v < N → G j v = -1) : FixTo G N F (j + 1) := by
  intro i hi v hv h0 u hu e1
  by_cases ei : i = j
  · subst ei; rw [e v hv] at e1; omega
  · exact h i (by omega) v hv h0 u hu e1
/-- what device j joins: p and q, or nothing -/
structure Pair (G : Nat → Nat → Int) (j p q : Nat) : Prop where
  pq : G j p = q
  qp : G j q = p
  no : ∀ v : Nat, v ≠ p → v ≠ q → G j v = -1
theorem FixTo.pair {G : Nat → Nat → Int} {N : Nat} {F : Nat → Int} {j p q : Nat} (h : FixTo G N F j) (hp : Pair G j p q) (e1 : 0 ≤ F p → 0 ≤ F q ∧ F q ≤ F p + 1) (e2 : 0 ≤ F q → 0 ≤ F p ∧ F p ≤ F q + 1) : FixTo G N F (j + 1) := by
  intro i hi v hv h0 u hu e
  by_cases ei : i = j
  · subst ei
    by_cases ep : v = p
    · subst ep
      have := hp.pq
      obtain rfl : u = q := by omega
      exact e1 h0
    · by_cases eq : v = q
      · subst eq
        have := hp.qp
        obtain rfl : u = p := by omega
        exact e2 h0
      · have := hp.no v ep eq; omega
  · exact h i (by omega) v hv h0 u hu e
theorem pair_of {ds : List Dv} {us : List Bool} {j p q : Nat} {nm : ByteArray} {ki co : Int} (hu : us.getD j false = true) (hd : ds.getD j default = ⟨nm, ki, p, q, co⟩) (hk : 1 ≤ ki ∧ ki ≤ 3) : Pair (nb ds us) j p q where
  pq := by unfold nb; rw [if_pos hu, hd]; unfold acr; dsimp only; rw [if_pos hk, if_pos rfl]
  qp := by
    unfold nb; rw [if_pos hu, hd]; unfold acr; dsimp only; rw [if_pos hk]
    by_cases e : (q : Int) = p
    · rw [if_pos e]; exact e
    · rw [if_neg e, if_pos rfl]
  no := fun v h1 h2 => by unfold nb; rw [if_pos hu, hd]; unfold acr; dsimp only; rw [if_pos hk, if_neg (by omega), if_neg (by omega)]
theorem pair_no {ds : List Dv} {us : List Bool} {j : Nat} {nm : ByteArray} {ki da db co : Int} (hd : ds.getD j default = ⟨nm, ki, da, db, co⟩) (h : us.getD j false = true → ¬ (1 ≤ ki ∧ ki ≤ 3)) (v : Nat) : nb ds us j v = -1 := by
  unfold nb
  by_cases hu : us.getD j false = true
  · rw [if_pos hu, hd]; unfold acr; dsimp only; rw [if_neg (h hu)]
  · rw [if_neg hu]
/-- a relaxation: node u by way of v over device j -/
theorem SI.less {G : Nat → Nat → Int} {M N to : Nat} {F : Nat → Int} {j v u : Nat} (hG : Sym G M N) (h : SI G M N to F) (hj : j < M) (hv : v < N) (hu : u < N) (hN : N ≤ 32) (e : G j v = u) (h0 : 0 ≤ F v) (hc : F u < 0 ∨ F v + 1 < F u) :
    SI G M N to (upd F u (F v + 1)) ∧ ps (upd F u (F v + 1)) N + 1 ≤ ps F N :=
  ⟨h.relax hG hj hv hu e h0 hc, ps_upd hu (by omega) (by have := h.le v hv; omega)⟩
/-- what Steps leaves -/
def StepsPost (ds : List Dv) (us : List Bool) (N to : Nat) (w : World) (e : Ending) (w' : World) : Prop :=
  ∃ z D, e = .returned (.slice (some ⟨z, 0, none⟩) N N) ∧ w.heap.size ≤ z ∧ Cnts w' z N D ∧ IsDist (nb ds us) ds.length N to D ∧ Below w.heap.size w w'
set_option maxRecDepth 100000 in
set_option maxHeartbeats 8000000 in
theorem steps_is (a b u : Option Addr) (N c M d cu to gt ct : Nat) (ns : List Nd) (ds : List Dv) (us : List Bool) (w : World) (h : NetIn w a b N c M d ns ds) (hc : chk ns ds = 0) (hu : RIn encB 1 w u us) (hul : us.length = M) (ht : to < N)
    (hg : gt < w.heap.size) (hto : w.cell? ⟨gt, 0, none⟩ = some (.int .i64 (to : Int))) :
    Calls Tryd.prog 52 #[.agg #[.slice a N c, .slice b M d], .slice u M cu, .slice (some ⟨gt, 0, none⟩) 1 ct] w (StepsPost ds us N to w) := by
  have hs := chk_small hc
  rw [h.nlen, h.dlen] at hs
  obtain ⟨h1, h2⟩ := hs
  have HS := Lib.hid (nb_sym (us := us) (N := N) (fun i hi => by have := chk_its hc i hi; rwa [h.nlen] at this))
  have IT := Lib.hid (fun i hi => by have := chk_its hc i hi; rwa [h.nlen] at this)
  have HN := Lib.hid (fun wr (bel : Below w.heap.size w wr) => h.below bel)
  have HU := Lib.hid (fun wr (bel : Below w.heap.size w wr) => hu.below bel)
  have NT := Lib.hid (NtAt.new w (.slice a N c) (.slice b M d) 26)
  have hdl := Lib.hid h.dlen
  have hul := Lib.hid hul
  have n1 := h.ncap
  have n2 := h.nmax
  have n3 := h.dcap
  have n4 := h.dmax
  unfold maxLen at n2 n4
  have MK := Lib.hid (make_ints N (by omega) (w.alloc (.cells #[.slice a N c, .slice b M d] 26)))
  obtain ⟨w2, hw2⟩ : ∃ w2, (w.alloc (.cells #[.slice a N c, .slice b M d] 26)).alloc (.cells (madeCells #[.int .i64 0] N) 3) = w2 := ⟨_, rfl⟩
  have S2 : Hid (NtAt w2 w.heap.size (.slice a N c) (.slice b M d) ∧ Cnts w2 (w.heap.size + 1) N (fun _ => 0) ∧ Below w.heap.size w w2 ∧ w2.heap.size = w.heap.size + 1 + 1) := by
    show _ ∧ _ ∧ _ ∧ _
    rw [← hw2]
    refine ⟨NT.out.alloc _, ?_, (below_box _ _).trans ((below_box _ _).mono (by simp)), by simp⟩
    have := Cnts.new0 (w.alloc (.cells #[.slice a N c, .slice b M d] 26)) N 3 (made_ints N)
    simpa only [World.size_alloc] using this
  have hmk := MK.out
  rw [hw2] at hmk
  have hto2 : Hid (∀ wr, Below w.heap.size w wr → wr.cell? ⟨gt, 0, none⟩ = some (.int .i64 (to : Int))) := fun wr b => by rw [b.cell (p := ⟨gt, 0, none⟩) hg]; exact hto
  clear h hc hu NT MK hto
  have e2 : (w.alloc (.cells #[.slice a N c, .slice b M d] 26)).heap.size = w.heap.size + 1 := by simp
  rw [e2] at hmk
  clear e2
  go_enter Tryd.func52, Tryd.ntmps52
  go_wp2_with fail
  obtain ⟨z, hz⟩ : ∃ z, w.heap.size + 1 = z := ⟨_, rfl⟩
  obtain ⟨x, hx⟩ : ∃ x, w.heap.size = x := ⟨_, rfl⟩
  rw [hz] at S2 ⊢
  rw [hx] at S2 ⊢
  have XZ : w.heap.size = x ∧ x + 1 = z := by omega
  rw [hx] at hg
  clear hw2 hz hx hmk
  rw [XZ.1] at HN HU hto2
  have WW := Lib.hid (fun wr (bel : Below z w2 wr) => S2.out.2.2.1.trans (bel.mono (by omega)))
  have BS : Hid (∀ (t : Nat) (v : Int) {wr : World}, Below z w2 wr → Below z w2 (wr.setCell ⟨z, t, none⟩ (.int .i64 v))) := fun t v wr bel =>
    have g : wr.grownBy (wr.setCell ⟨z, t, none⟩ (.int .i64 v)) (some z) := gb_set _ (gb_refl wr _)
    bel.grown g (by have := bel.size; have := S2.out.2.2.2; omega) (fun k hk => by cases hk; exact Nat.le_refl _)
  go_loopw [8] (fun i wr => ∃ j : Nat, j ≤ N ∧ i = .int .i64 j ∧ Hid (Below z w2 wr) ∧ Hid (Cnts wr z N (fun t => if t < j then -1 else 0))) (fun i _ => N - (intOf i).toNat)
  case atStart => exact ⟨0, Nat.zero_le _, rfl, Below.refl _ _, S2.out.2.1.congr (fun t _ => by simp)⟩
  case round => as_aux_lemma =>
    obtain ⟨j, hj, rfl, bel, ar⟩ := hrel
    by_cases hjN : j < N
    · obtain ⟨q1, q2⟩ := ar.out.get hjN
      rw [if_neg (Nat.lt_irrefl j)] at q1
      go_wp2
      go_roundw
      case rel =>
        refine ⟨j + 1, by omega, by go_num, BS.out j (-1) bel.out, (ar.out.set j hjN (-1)).congr (fun t _ => ?_)⟩
        unfold upd
        by_cases e : t = j
        · subst e; simp
        · rw [if_neg e]
          show (if t < j then (-1 : Int) else 0) = _
          by_cases e2 : t < j
          · rw [if_pos e2, if_pos (by omega)]
          · rw [if_neg e2, if_neg (by omega)]
      case measure => simp [intOf]; omega
    · have F0 := Lib.hid (ar.out.congr (g := fun _ => -1) (fun t ht => by rw [if_pos (by omega)]))
      clear ar
      obtain rfl : N = j := by omega
      go_wp2_with fail
      go_loopw [9] (fun i wr => ∃ (j : Nat) (F : Nat → Int), j ≤ 1 ∧ i = .int .i64 j ∧ Hid (Below z w2 wr) ∧ Hid (Cnts wr z N F) ∧ Hid (∀ t, t < N → F t = if j = 1 ∧ t = to then 0 else -1)) (fun i _ => 1 - (intOf i).toNat)
      case atStart => exact ⟨0, _, Nat.zero_le _, rfl, bel, F0, fun t _ => by rw [if_neg (by omega)]⟩
      case round => as_aux_lemma =>
        clear bel F0
        obtain ⟨j, F, hj1, rfl, bel, ar, hF⟩ := hrel
        by_cases hj0 : j < 1
        · obtain rfl : j = 0 := by omega
          have q0 := hto2.out _ (WW.out _ bel.out)
          obtain ⟨q1, q2⟩ := ar.out.get ht
          go_wp2
          go_roundw
          case rel =>
            refine ⟨1, upd F to 0, Nat.le_refl _, by go_num, BS.out to 0 bel.out, ar.out.set to ht 0, fun t htN => ?_⟩
            by_cases e : t = to
            · subst e; rw [upd_eq, if_pos ⟨rfl, rfl⟩]
            · rw [upd_ne F 0 e, hF.out t htN, if_neg (fun h => by omega), if_neg (fun h => e h.2)]
          case measure => simp [intOf]
        · have SS := Lib.hid (SI.start (G := nb ds us) (M := ds.length) F ht (by rw [hF.out to ht, if_pos ⟨by omega, rfl⟩]) (fun v hv hne => by rw [hF.out v hv, if_neg (fun h => hne h.2)]))
          have hj1' : ¬ ((j : Int) < 1) := by omega
          clear hF hto2
          go_wp2_with fail
          go_loopw [10] (fun c wr => ∃ (ch : Bool) (F : Nat → Int), c = .bool ch ∧ Hid (Cnts wr z N F) ∧ Hid (SI (nb ds us) ds.length N to F) ∧ Hid (ch = false → FixTo (nb ds us) N F ds.length) ∧ Hid (Below z w2 wr)) (fun c wr => psW wr z N + chN c)
          case atStart => exact ⟨true, F, rfl, ar, SS, (fun h => by cases h), bel⟩
          case round => as_aux_lemma =>
            clear bel ar SS
            obtain ⟨ch, F0, rfl, ar, s0, f0, bel⟩ := hrel
            cases ch
            · have DI := Lib.hid (s0.out.dist HS.out (f0.out rfl))
              have BB := Lib.hid (WW.out _ bel.out)
              go_wp2
              go_ret
              exact ⟨z, F0, rfl, by omega, ar.out, DI.out, by rw [XZ.1]; exact BB.out⟩
            · have P0 := Lib.hid (psW_is ar.out N (Nat.le_refl _))
              clear f0
              go_wp2_with fail
              go_loopw [10, 11] (fun c i wr => ∃ (j : Nat) (ch : Bool) (F : Nat → Int), j ≤ M ∧ c = .bool ch ∧ i = .int .i64 j ∧ Hid (Cnts wr z N F) ∧ Hid (SI (nb ds us) ds.length N to F) ∧ Hid (ch = false → FixTo (nb ds us) N F j) ∧ Hid (ps F N + ch1 ch ≤ ps F0 N) ∧ Hid (Below z w2 wr)) (fun _ i _ => M - (intOf i).toNat)
              case atStart => exact ⟨0, false, F0, Nat.zero_le _, rfl, rfl, ar, s0, fun _ i hi => (by cases hi), by show _ ≤ _; unfold ch1; simp, bel⟩
              case round => as_aux_lemma =>
                clear bel ar s0
                obtain ⟨j, ch, F, hjM, rfl, rfl, cb, si, fx, pot, bel⟩ := hrel
                obtain ⟨k1, k2, k3⟩ := S2.out.1.below bel.out (by omega)
                by_cases hj : j < M
                · have hjd : j < ds.length := by rw [hdl.out]; exact hj
                  have hju : j < us.length := by rw [hul.out]; exact hj
                  have BW := WW.out _ bel.out
                  obtain ⟨g, o, hbe, hg1, hcd⟩ := (HN.out _ BW).din.some (by omega)
                  obtain ⟨g2, o2, hue, hg2, hcu⟩ := (HU.out _ BW).some (by omega)
                  subst hbe
                  subst hue
                  obtain ⟨c0, c1, c2, c3, c4⟩ := cells_dv hcd j hjd
                  have u0 := cells_b hcu j hju
                  have it := IT.out j hjd
                  have hd0 := getD_of hjd
                  have hu0 : us.getD j false = us[j] := by rw [List.getD_eq_getElem?_getD, List.getElem?_eq_getElem hju]; rfl
                  obtain ⟨xd, hxd⟩ : ∃ x, ds[j] = x := ⟨_, rfl⟩
                  obtain ⟨bu, hbu⟩ : ∃ x, us[j] = x := ⟨_, rfl⟩
                  rw [hxd] at c0 c1 c2 c3 c4 hd0
                  rw [hbu] at u0 hu0
                  rw [hd0] at it
                  clear hxd hbu hcd hcu hjd hju BW
                  obtain ⟨nm, ki, da, db, co⟩ := xd
                  dsimp only at c0 c1 c2 c3 c4
                  have HD := Lib.hid hd0
                  have HU0 := Lib.hid hu0
                  clear hu0
                  have bb := below_box wr (.cells #[.string nm, .int .i64 ki, .int .i64 da, .int .i64 db, .int .i64 co] 57)
                  rw [← bb.cell (p := ⟨g2, o2 + j, none⟩) hg2] at u0
                  clear bb
                  have SYN : Hid True := trivial
                  cases bu
                  · have PNO : us.getD j false = true → ¬ (1 ≤ ki ∧ ki ≤ 3) := fun h => by rw [HU0.out] at h; cases h
                    clear it
                    have nx : Hid (ch = false → FixTo (nb ds us) N F (j + 1)) := fun h => (fx.out h).none (fun v _ => pair_no HD.out PNO v)
                    have cb2 := Lib.hid (cb.out.below (below_box wr (.cells #[.string nm, .int .i64 ki, .int .i64 da, .int .i64 db, .int .i64 co] 57)))
                    have bel2 := Lib.hid (bel.out.trans ((below_box wr (.cells #[.string nm, .int .i64 ki, .int .i64 da, .int .i64 db, .int .i64 co] 57)).mono (by have := bel.out.size; have := S2.out.2.2.2; omega)))
                    clear SYN PNO hd0 cb bel fx
                    go_wp2
                    go_roundw
                    case rel => exact ⟨j + 1, ch, F, by omega, rfl, by go_num, cb2, si, nx, pot, bel2⟩
                    case measure => simp [intOf]; omega
                  · by_cases hk : 1 ≤ ki ∧ ki ≤ 3
                    · have J := Lib.hid (fun W => rjoins_is ki true (decide_eq_true hk) W)
                      obtain ⟨⟨a0, a1⟩, hb⟩ := itsB_parts it
                      obtain ⟨p, hp⟩ : ∃ p : Nat, da = p := ⟨da.toNat, by simp only at a0; omega⟩
                      obtain ⟨q, hq⟩ : ∃ q : Nat, db = q := ⟨db.toNat, by simp only at hb; omega⟩
                      subst hp
                      subst hq
                      simp only at a1 hb
                      have hpN : p < N := by omega
                      have hqN : q < N := by omega
                      have PR := Lib.hid (pair_of HU0.out HD.out hk)
                      have cb2 := Lib.hid (cb.out.below (below_box wr (.cells #[.string nm, .int .i64 ki, .int .i64 (p : Int), .int .i64 (q : Int), .int .i64 co] 57)))
                      have bel2 := Lib.hid (bel.out.trans ((below_box wr (.cells #[.string nm, .int .i64 ki, .int .i64 (p : Int), .int .i64 (q : Int), .int .i64 co] 57)).mono (by have := bel.out.size; have := S2.out.2.2.2; omega)))
                      obtain ⟨qa, -⟩ := cb2.out.get (t := p) hpN
                      obtain ⟨qb, -⟩ := cb2.out.get (t := q) hqN
                      have la := si.out.low p hpN
                      have lb := si.out.low q hqN
                      have ua := si.out.le p hpN
                      have ub := si.out.le q hqN
                      obtain ⟨A, hA⟩ : ∃ A, F p = A := ⟨_, rfl⟩
                      obtain ⟨B, hB⟩ : ∃ B, F q = B := ⟨_, rfl⟩
                      rw [hA] at qa la ua
                      rw [hB] at qb lb ub
                      have HA := Lib.hid hA
                      have HB := Lib.hid hB
                      clear hA hB it hb hk HD HU0 hd0 cb bel SYN a0 a1
                      go_wp2_with fail
                      refine (J.out _).mono ?_; rintro e w' ⟨rfl, rfl⟩
                      clear c0 c1 c2 c3 c4 u0 J
                      by_cases x1 : 0 ≤ A
                      · by_cases x2 : B < 0
                        · have LS := Lib.hid (si.out.less HS.out (by rw [hdl.out]; exact hj) hpN hqN h1 PR.out.pq (by rw [HA.out]; omega) (by rw [HA.out, HB.out]; omega))
                          rw [HA.out] at LS
                          have c9 := Lib.hid (cb2.out.set q hqN (A + 1))
                          obtain ⟨-, g9⟩ := cb2.out.get (t := q) hqN
                          have nx : Hid (true = false → FixTo (nb ds us) N (upd F q (A + 1)) (j + 1)) := fun h => by cases h
                          have pot2 : Hid (ps (upd F q (A + 1)) N + ch1 true ≤ ps F0 N) := by have h1 := LS.out.2; have h2 := pot.out; show _ ≤ _; unfold ch1 at h2 ⊢; rw [if_pos rfl]; split at h2 <;> omega
                          have si2 := Lib.hid LS.out.1
                          have bel3 := Lib.hid (BS.out q (A + 1) bel2.out)
                          have T0 : decide (0 ≤ A) = true := decide_eq_true (by omega); have T1 : decide (B < 0) = true := decide_eq_true (by omega); have T2 : decide (0 ≤ B) = false := decide_eq_false (by omega)
                          clear fx PR HA HB LS
                          go_wp2
                          go_quiet (fail)
                          go_wp2
                          go_roundw
                          case rel => exact ⟨j + 1, true, _, by omega, rfl, by go_num, c9.out, si2, nx, pot2, below_drewN bel3.out _⟩
                          case measure => simp [intOf]; omega
                        · by_cases x3 : A + 1 < B
                          · have LS := Lib.hid (si.out.less HS.out (by rw [hdl.out]; exact hj) hpN hqN h1 PR.out.pq (by rw [HA.out]; omega) (by rw [HA.out, HB.out]; omega))
                            rw [HA.out] at LS
                            have c9 := Lib.hid (cb2.out.set q hqN (A + 1))
                            obtain ⟨-, g9⟩ := cb2.out.get (t := q) hqN
                            have nx : Hid (true = false → FixTo (nb ds us) N (upd F q (A + 1)) (j + 1)) := fun h => by cases h
                            have pot2 : Hid (ps (upd F q (A + 1)) N + ch1 true ≤ ps F0 N) := by have h1 := LS.out.2; have h2 := pot.out; show _ ≤ _; unfold ch1 at h2 ⊢; rw [if_pos rfl]; split at h2 <;> omega
                            have si2 := Lib.hid LS.out.1
                            have bel3 := Lib.hid (BS.out q (A + 1) bel2.out)
                            have T0 : decide (0 ≤ A) = true := decide_eq_true (by omega); have T1 : decide (B < 0) = false := decide_eq_false (by omega); have T2 : decide (A + 1 < B) = true := decide_eq_true (by omega); have T3 : decide (0 ≤ B) = true := decide_eq_true (by omega); have T4 : decide (A < 0) = false := decide_eq_false (by omega); have T5 : decide (B + 1 < A) = false := decide_eq_false (by omega)
                            clear fx PR HA HB LS
                            go_wp2
                            go_quiet (fail)
                            go_wp2
                            go_roundw
                            case rel => exact ⟨j + 1, true, _, by omega, rfl, by go_num, c9.out, si2, nx, pot2, below_drewN bel3.out _⟩
                            case measure => simp [intOf]; omega
                          · by_cases x4 : B + 1 < A
                            · have LS := Lib.hid (si.out.less HS.out (by rw [hdl.out]; exact hj) hqN hpN h1 PR.out.qp (by rw [HB.out]; omega) (by rw [HA.out, HB.out]; omega))
                              rw [HB.out] at LS
                              have c9 := Lib.hid (cb2.out.set p hpN (B + 1))
                              obtain ⟨-, g9⟩ := cb2.out.get (t := p) hpN
                              have nx : Hid (true = false → FixTo (nb ds us) N (upd F p (B + 1)) (j + 1)) := fun h => by cases h
                              have pot2 : Hid (ps (upd F p (B + 1)) N + ch1 true ≤ ps F0 N) := by have h1 := LS.out.2; have h2 := pot.out; show _ ≤ _; unfold ch1 at h2 ⊢; rw [if_pos rfl]; split at h2 <;> omega
                              have si2 := Lib.hid LS.out.1
                              have bel3 := Lib.hid (BS.out p (B + 1) bel2.out)
                              have T0 : decide (0 ≤ A) = true := decide_eq_true (by omega); have T1 : decide (B < 0) = false := decide_eq_false (by omega); have T2 : decide (A + 1 < B) = false := decide_eq_false (by omega); have T3 : decide (0 ≤ B) = true := decide_eq_true (by omega); have T4 : decide (A < 0) = false := decide_eq_false (by omega); have T5 : decide (B + 1 < A) = true := decide_eq_true (by omega)
                              clear fx PR HA HB LS
                              go_wp2
                              go_quiet (fail)
                              go_wp2
                              go_roundw
                              case rel => exact ⟨j + 1, true, _, by omega, rfl, by go_num, c9.out, si2, nx, pot2, below_drewN bel3.out _⟩
                              case measure => simp [intOf]; omega
                            · have nx : Hid (ch = false → FixTo (nb ds us) N F (j + 1)) := fun h => (fx.out h).pair PR.out (fun h => by rw [HA.out] at h; rw [HA.out, HB.out]; omega) (fun h => by rw [HB.out] at h; rw [HA.out, HB.out]; omega)
                              have T0 : decide (0 ≤ A) = true := decide_eq_true (by omega); have T1 : decide (B < 0) = false := decide_eq_false (by omega); have T2 : decide (A + 1 < B) = false := decide_eq_false (by omega); have T3 : decide (0 ≤ B) = true := decide_eq_true (by omega); have T4 : decide (A < 0) = false := decide_eq_false (by omega); have T5 : decide (B + 1 < A) = false := decide_eq_false (by omega)
                              clear fx PR HA HB
                              go_wp2
                              go_quiet (fail)
                              go_wp2
                              go_roundw
                              case rel => exact ⟨j + 1, ch, F, by omega, rfl, by go_num, cb2.out, si, nx, pot, below_drewN bel2.out _⟩
                              case measure => simp [intOf]; omega
                      · by_cases x2 : B < 0
                        · have nx : Hid (ch = false → FixTo (nb ds us) N F (j + 1)) := fun h => (fx.out h).pair PR.out (fun h => by rw [HA.out] at h; rw [HA.out, HB.out]; omega) (fun h => by rw [HB.out] at h; rw [HA.out, HB.out]; omega)
                          have T0 : decide (0 ≤ A) = false := decide_eq_false (by omega); have T1 : decide (B < 0) = true := decide_eq_true (by omega); have T2 : decide (0 ≤ B) = false := decide_eq_false (by omega)
                          clear fx PR HA HB
                          go_wp2
                          go_quiet (fail)
                          go_wp2
                          go_roundw
                          case rel => exact ⟨j + 1, ch, F, by omega, rfl, by go_num, cb2.out, si, nx, pot, below_drewN bel2.out _⟩
                          case measure => simp [intOf]; omega
                        · have LS := Lib.hid (si.out.less HS.out (by rw [hdl.out]; exact hj) hqN hpN h1 PR.out.qp (by rw [HB.out]; omega) (by rw [HA.out, HB.out]; omega))
                          rw [HB.out] at LS
                          have c9 := Lib.hid (cb2.out.set p hpN (B + 1))
                          obtain ⟨-, g9⟩ := cb2.out.get (t := p) hpN
                          have nx : Hid (true = false → FixTo (nb ds us) N (upd F p (B + 1)) (j + 1)) := fun h => by cases h
                          have pot2 : Hid (ps (upd F p (B + 1)) N + ch1 true ≤ ps F0 N) := by have h1 := LS.out.2; have h2 := pot.out; show _ ≤ _; unfold ch1 at h2 ⊢; rw [if_pos rfl]; split at h2 <;> omega
                          have si2 := Lib.hid LS.out.1
                          have bel3 := Lib.hid (BS.out p (B + 1) bel2.out)
                          have T0 : decide (0 ≤ A) = false := decide_eq_false (by omega); have T1 : decide (0 ≤ B) = true := decide_eq_true (by omega); have T2 : decide (A < 0) = true := decide_eq_true (by omega)
                          clear fx PR HA HB LS
                          go_wp2
                          go_quiet (fail)
                          go_wp2
                          go_roundw
                          case rel => exact ⟨j + 1, true, _, by omega, rfl, by go_num, c9.out, si2, nx, pot2, below_drewN bel3.out _⟩
                          case measure => simp [intOf]; omega
                    · have J := Lib.hid (fun W => rjoins_is ki false (decide_eq_false hk) W)
                      have PNO : us.getD j false = true → ¬ (1 ≤ ki ∧ ki ≤ 3) := fun _ => hk
                      have nx : Hid (ch = false → FixTo (nb ds us) N F (j + 1)) := fun h => (fx.out h).none (fun v _ => pair_no HD.out PNO v)
                      have cb2 := Lib.hid (cb.out.below (below_box wr (.cells #[.string nm, .int .i64 ki, .int .i64 da, .int .i64 db, .int .i64 co] 57)))
                      have bel2 := Lib.hid (bel.out.trans ((below_box wr (.cells #[.string nm, .int .i64 ki, .int .i64 da, .int .i64 db, .int .i64 co] 57)).mono (by have := bel.out.size; have := S2.out.2.2.2; omega)))
                      clear SYN PNO hd0 cb bel fx it hk HD HU0
                      go_wp2_with fail
                      refine (J.out _).mono ?_; rintro e w' ⟨rfl, rfl⟩
                      go_wp2
                      go_roundw
                      case rel => exact ⟨j + 1, ch, F, by omega, rfl, by go_num, cb2, si, nx, pot, bel2⟩
                      case measure => simp [intOf]; omega
                · obtain rfl : M = j := by omega
                  have P1 := Lib.hid (psW_is cb.out N (Nat.le_refl _))
                  have fx2 : Hid (ch = false → FixTo (nb ds us) N F ds.length) := fun h => by have := fx.out h; rw [← hdl.out] at this; exact this
                  go_wp2
                  go_roundw
                  case rel => exact ⟨ch, F, rfl, cb, si, fx2, bel⟩
                  case measure => rw [chN_is, chN_is, P1.out, P0.out]; have h := pot.out; have e : ch1 true = 1 := rfl; omega
end Go.Proofs.YtoeojhabhnoojaaDoor.net
