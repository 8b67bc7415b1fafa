/- The walks of layer 6's reference: Lowest, Highest; append([]int(nil), l...). Condition: at most 64 elements. -/
import Derived.Test.YtoeojhabhnoojaaDoorMkRp
import Derived.Deep.RegionHeld3
import Derived.Laws.AppendOwnNone
namespace Go.Proofs.YtoeojhabhnoojaaDoor.msk
open Go.RowKit lex aggs kit net deck

/-- the first k elements replaced where they are unknown -/
def filL (q : Int) (xs : List Int) (k : Nat) : List Int := (List.range xs.length).map fun i => if at0 xs i = 3 ∧ i < k then q else at0 xs i
theorem filL_len (q : Int) (xs : List Int) (k : Nat) : (filL q xs k).length = xs.length := by simp [filL]
theorem filL_at {q : Int} {xs : List Int} {k i : Nat} (hi : i < xs.length) : at0 (filL q xs k) i = if at0 xs i = 3 ∧ i < k then q else at0 xs i := by
  rw [at0_get (by rw [filL_len]; exact hi)]; simp [filL]
theorem filL_zero (q : Int) (xs : List Int) : filL q xs 0 = xs := by
  refine ext0 (filL_len _ _ _) (fun i hi => ?_)
  rw [filL_len] at hi
  rw [filL_at hi, if_neg (by omega)]
theorem filL_end (q : Int) (xs : List Int) : filL q xs xs.length = setL q xs := by
  refine ext0 (by rw [filL_len, setL_len]) (fun i hi => ?_)
  rw [filL_len] at hi
  rw [filL_at hi, setL_at hi]
  by_cases h : at0 xs i = 3
  · rw [if_pos h, if_pos ⟨h, hi⟩]
  · rw [if_neg h, if_neg (fun k => h k.1)]
theorem filL_step {q : Int} {xs : List Int} {k : Nat} (hk : k < xs.length) : at0 (filL q xs k) k = at0 xs k ∧ (at0 xs k = 3 → (filL q xs k).set k q = filL q xs (k + 1)) ∧ (at0 xs k ≠ 3 → filL q xs k = filL q xs (k + 1)) := by
  refine ⟨by rw [filL_at hk, if_neg (by omega)], fun h3 => ?_, fun h3 => ?_⟩
  · refine ext0 (by rw [List.length_set, filL_len, filL_len]) (fun i hi => ?_)
    rw [List.length_set, filL_len] at hi
    rw [at0_set _ (by rw [filL_len]; exact hk), filL_at hi, filL_at hi]
    by_cases e : i = k
    · subst e; rw [if_pos rfl, if_pos ⟨h3, by omega⟩]
    · rw [if_neg e]
      by_cases h : at0 xs i = 3 ∧ i < k
      · rw [if_pos h, if_pos ⟨h.1, by omega⟩]
      · rw [if_neg h, if_neg (fun h2 => h ⟨h2.1, by omega⟩)]
  · refine ext0 (by rw [filL_len, filL_len]) (fun i hi => ?_)
    rw [filL_len] at hi
    rw [filL_at hi, filL_at hi]
    by_cases h : at0 xs i = 3 ∧ i < k
    · rw [if_pos h, if_pos ⟨h.1, by omega⟩]
    · rw [if_neg h, if_neg (fun h2 => by
        by_cases e : i = k
        · subst e; exact h3 h2.1
        · exact h ⟨h2.1, by omega⟩)]
theorem bel_dn {w w1 : World} {B : Nat} (h : Below B w w1) (n : Nat) : Below B w (w1.drewN n) := ⟨h.os, h.tape, h.output, h.size, h.block⟩
/-- one element is appended within a region -/
theorem step_append_i {P : Program} {w : World} {ops : Array Oper} {o : Oper} {a : Act} {K : Act → World → Prop} {Q : Exit → Act → World → Prop} {E : Prop} (hgd : o.guard = none) (s x : Operand) (t : TypeId)
    (ho : o.op = .call { callee := .builtin .append, args := #[s, x], argTypes := #[t, t] })
    (base : Nat) (e : TypeId) (i : TypeInfo) (z : Value) (size bytes : Nat) (ht : P.underlying t = some (.slice e)) (hi : P.info? e = some i) (hz : i.zero = some z)
    (hsize : i.size = size) (hby : i.bytes = bytes) (hzs : z.cells.size = size) (hsz : 0 < size)
    (v : Value) (n : Nat) (xs : List Value) (hs : a.eval s = v) (hown : w.ownsRow base e size v n xs)
    (ad : Addr) (m c : Nat) (news : List Value) (hx : a.eval x = .slice (some ad) m c) (hl : news.length = m * size) (hnews : ∀ j u, news[j]? = some u → w.cell? (ad.add j) = some u) (h1 : ∀ u ∈ news, u.oneCell' = true)
    (h63 : n + m ≤ maxLen) (hbytes : (n + m) * bytes ≤ 140737488355328) (hbase : base ≤ w.heap.size)
    (h : ∀ v' w', w'.ownsRow base e size v' (n + m) (xs ++ news) → w.grownBy w' v.ownBlock → (v' = .slice none 0 0 ↔ v = .slice none 0 0 ∧ m = 0) → K (a.put o.dst v') w') :
    if Region.wanted o (yielded ops a.tmps) = true then Oper.wp P o a w K Q else E := by
  have hw : Region.wanted o (yielded ops a.tmps) = true := by simp [Region.wanted, hgd]
  rw [if_pos hw]
  exact wp_append_own w s x t ho base e i z size bytes ht hi hz hsize hby hzs hsz v n xs hs hown ad m c news hx hl hnews h1 h63 hbytes hbase h
section
variable {w w' : World} {g i k j : Nat} {v u : Value}
theorem pr_alloc (h : w.cell? ⟨g, i, none⟩ = some v ∧ w.cell? ⟨k, j, none⟩ = some u) (o : Obj) : (w.alloc o).cell? ⟨g, i, none⟩ = some v ∧ (w.alloc o).cell? ⟨k, j, none⟩ = some u := by
  have hb := below_box w o
  exact ⟨by rw [hb.cell (p := ⟨g, i, none⟩) (World.block_lt_of_cell? w _ h.1)]; exact h.1, by rw [hb.cell (p := ⟨k, j, none⟩) (World.block_lt_of_cell? w _ h.2)]; exact h.2⟩
theorem pr_drew (h : w.cell? ⟨g, i, none⟩ = some v ∧ w.cell? ⟨k, j, none⟩ = some u) : w.drew.cell? ⟨g, i, none⟩ = some v ∧ w.drew.cell? ⟨k, j, none⟩ = some u := h
theorem pr_grown {row : Option Nat} (h : w.cell? ⟨g, i, none⟩ = some v ∧ w.cell? ⟨k, j, none⟩ = some u) (hg : w.grownBy w' row) (h1 : some g ≠ row) (h2 : some k ≠ row) : w'.cell? ⟨g, i, none⟩ = some v ∧ w'.cell? ⟨k, j, none⟩ = some u :=
  ⟨hg.cell h.1 h1, hg.cell h.2 h2⟩
end
/-- append([]int(nil), l...) -/
theorem wpList_append_lin {ops : Array Oper} {rest : List Oper} {o : Oper} {act : Act} {Q : Exit → Act → World → Prop} {w : World} {a : Option Addr} {N c : Nat} {xs : List Int} (hgd : o.guard = none) (x : Operand)
    (ho : o.op = .call { callee := .builtin .append, args := #[.const (.slice none 0 0), x], argTypes := #[22, 22] }) (hx : act.eval x = .slice a N c) (h : LIn w a N c xs) (hN : N ≤ 1000)
    (hK : ∀ a' c' w', OwnI w' w.heap.size (.slice a' N c') xs → w.grownBy w' none → wpList Tryd.prog ops Q rest (act.put o.dst (.slice a' N c')) w') : wpList Tryd.prog ops Q (o :: rest) act w := by
  obtain ⟨i0, hi, hz0, hz1, hz2⟩ := info_parts infoI
  have hK2 : ∀ v' w', w'.ownsRow w.heap.size 3 1 v' N (flat encI xs) → w.grownBy w' none → wpList Tryd.prog ops Q rest (act.put o.dst v') w' := fun v' w' ho hg => by
    have ha : OwnI w' w.heap.size v' xs := by
      show w'.ownsRow _ _ 1 v' xs.length _
      rw [h.len]; exact ho
    obtain ⟨a', c', rfl, -, -⟩ := ha.lin
    rw [h.len] at ha ⊢
    exact hK a' c' w' ha hg
  cases a with
  | none =>
    obtain rfl : c = 0 := h.nil rfl
    obtain rfl : N = 0 := by have := h.cap; omega
    have : xs = [] := List.eq_nil_of_length_eq_zero h.len
    subst this
    refine wpList_append_own_none hgd (.const (.slice none 0 0)) x 22 ho w.heap.size 3 i0 1 Tryd.underlying22 hi (.slice none 0 0) 0 [] rfl (World.ownsRow_nil _ _ _ _) hx ?_
    exact hK2 _ _ (World.ownsRow_nil _ _ _ _) (gb_refl w none)
  | some ad =>
    have hcl : ∀ j u, (flat encI xs)[j]? = some u → w.cell? (ad.add j) = some u := fun j u hu => by
      have hj := (List.getElem?_eq_some_iff.1 hu).1
      rw [flat_length encI_len] at hj
      obtain ⟨g, o, e, hg, hc⟩ := h.rin.some (by omega)
      cases e
      exact cells_newsI hc j u hu
    refine wpList_append_own _ hgd (.const (.slice none 0 0)) x 22 ho w.heap.size 3 i0 _ 1 8 Tryd.underlying22 hi hz0 hz1 hz2 rfl (by decide) (.slice none 0 0) 0 [] rfl (World.ownsRow_nil _ _ _ _) ad N c (flat encI xs) hx ?q1 ?q2 ?q3 ?q4 ?q5 ?q6 ?_
    case q1 => rw [flat_length encI_len, h.len]
    case q2 => exact hcl
    case q3 => exact flat_oneCell encI_one _
    case q4 => unfold maxLen; omega
    case q5 => omega
    case q6 => exact Nat.le_refl _
    intro v' w' hown hg _
    rw [Nat.zero_add, List.nil_append] at hown
    exact hK2 v' w' hown hg
set_option maxRecDepth 100000 in
set_option maxHeartbeats 4000000 in
theorem fill_is (a : Option Addr) (N c : Nat) (xs : List Int) (q : Int) (w : World) (h : LIn w a N c xs) (h64 : N ≤ 64) :
    Calls Tryd.prog 62 #[.slice a N c, .int .i64 q] w (NewI w (setL q xs)) := by
  have hn := Lib.hid h.len
  have n2 := h.cap
  have n3 := h.max
  have HL := Lib.hid h
  unfold maxLen at n3
  clear h
  go_enter Tryd.func62, Tryd.ntmps62
  go_wp2_with (at_builtin; go_must (refine wpList_append_lin rfl (.tmp 7) rfl rfl HL.out (by omega) ?_; intro a2 c2 w2 own2 gr2; have OWN2 := Lib.hid own2; have GR2 := Lib.hid gr2; clear own2 gr2))
  have B2 := Lib.hid ((Below.refl w.heap.size w).grown GR2.out (Nat.le_refl _) (fun k hk => by cases hk))
  go_loopw [6] (fun i wr => ∃ k : Nat, k ≤ N ∧ i = .int .i64 k ∧ Hid (OwnI wr w.heap.size (.slice a2 N c2) (filL q xs k)) ∧ Hid (Below w.heap.size w wr)) (fun i _ => N - (intOf i).toNat)
  case atStart => exact ⟨0, Nat.zero_le _, rfl, by show OwnI _ _ _ _; rw [filL_zero]; exact OWN2.out, B2.out⟩
  case round =>
    clear OWN2 B2
    obtain ⟨k, hk, rfl, own, bel⟩ := hrel
    by_cases hlt : k < N
    · obtain ⟨s1, s2, s3⟩ := filL_step (q := q) (xs := xs) (k := k) (by rw [hn.out]; exact hlt)
      obtain ⟨g, rfl, hlen, hbg, -, -, hcm, hcell⟩ := own.out.some (by omega)
      obtain ⟨c0, f0⟩ := hcell k hlt
      rw [s1] at c0
      unfold maxLen at hcm
      obtain ⟨x, hx⟩ : ∃ x, at0 xs k = x := ⟨_, rfl⟩
      rw [hx] at c0 s2 s3
      have S2 := Lib.hid s2
      have S3 := Lib.hid s3
      clear hx s1 s2 s3 hcell
      by_cases h3 : x = 3
      · subst h3
        have st := own.out.set hlen k hlt q
        rw [S2.out rfl] at st
        have NU := Lib.hid st.1
        have NB := Lib.hid (bel.out.grown st.2 bel.out.size (fun j hj => by cases hj; exact hbg))
        clear st own bel hlen
        go_wp2
        go_roundw
        case rel => exact ⟨k + 1, by omega, by go_num, NU, NB⟩
        case measure => simp [intOf]; omega
      · have T1 : (x == 3) = false := beq_eq_false_iff_ne.2 h3
        have NU : Hid (OwnI wr w.heap.size (.slice (some ⟨g, 0, none⟩) N c2) (filL q xs (k + 1))) := by
          show OwnI _ _ _ _
          rw [← S3.out h3]; exact own.out
        clear h3 own hlen
        go_wp2
        go_roundw
        case rel => exact ⟨k + 1, by omega, by go_num, NU, bel⟩
        case measure => simp [intOf]; omega
    · obtain rfl : k = N := by omega
      have FIN : Hid (OwnI wr w.heap.size (.slice a2 k c2) (setL q xs)) := by
        show OwnI _ _ _ _
        rw [← filL_end, hn.out]; exact own.out
      go_wp2
      go_ret
      exact ⟨_, rfl, FIN.out, bel.out⟩
theorem rLowest_is (a : Option Addr) (N c : Nat) (xs : List Int) (w : World) (h : LIn w a N c xs) (h64 : N ≤ 64) :
    Calls Tryd.prog 46 #[.slice a N c] w (NewI w (setL 1 xs)) := by
  have HL := Lib.hid h
  clear h
  go_enter Tryd.func46, Tryd.ntmps46
  go_wp2_with fail
  refine (fill_is a N c xs 1 _ HL.out h64).mono ?_
  rintro e w1 ⟨v, rfl, hv, b1⟩
  have HV := Lib.hid hv
  have HB := Lib.hid b1
  clear hv b1
  go_wp2
  go_ret
  exact ⟨_, rfl, HV.out, HB.out⟩
theorem rHighest_is (a : Option Addr) (N c : Nat) (xs : List Int) (w : World) (h : LIn w a N c xs) (h64 : N ≤ 64) :
    Calls Tryd.prog 47 #[.slice a N c] w (NewI w (setL 2 xs)) := by
  have HL := Lib.hid h
  clear h
  go_enter Tryd.func47, Tryd.ntmps47
  go_wp2_with fail
  refine (fill_is a N c xs 2 _ HL.out h64).mono ?_
  rintro e w1 ⟨v, rfl, hv, b1⟩
  have HV := Lib.hid hv
  have HB := Lib.hid b1
  clear hv b1
  go_wp2
  go_ret
  exact ⟨_, rfl, HV.out, HB.out⟩
end Go.Proofs.YtoeojhabhnoojaaDoor.msk
