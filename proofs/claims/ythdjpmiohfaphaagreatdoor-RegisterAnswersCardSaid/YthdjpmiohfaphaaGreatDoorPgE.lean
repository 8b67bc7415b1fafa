/- The walks of slices.Clone, Insert (of one) and Delete (of one) at lists of people. Condition: at most 64 people. -/
import Derived.Test.YthdjpmiohfaphaaGreatDoorRgI
import Derived.Test.YthdjpmiohfaphaaGreatDoorSlk
import Derived.Shelf.RegionOpenPlain
import Derived.Laws.Externs
import Derived.Lib.SliceRun
namespace Go.Proofs.YthdjpmiohfaphaaGreatDoor.reg
open Go.RowKit lex aggs kit net deck slk

set_option maxRecDepth 100000 in
set_option maxHeartbeats 4000000 in
theorem clone_is (a : Option Addr) (N c : Nat) (ps : List Pn) (w : World) (h : RegIn w a N c ps) (h64 : N ≤ 64) :
    Calls Tryz.prog 32 #[.slice a N c] w fun e w' => ∃ v, e = .returned v ∧ AggsAt 27 5 encPn w' w.heap.size v ps ∧ Below w.heap.size w w' := by
  obtain ⟨i0, hi, hz0, hz1, hz2⟩ := info_parts infoPn
  have hn := h.len
  have n2 := h.ncap
  have n3 := h.nmax
  unfold maxLen at n3
  rcases h.rin with ⟨rfl, rfl⟩ | ⟨g, o, rfl, hg, hc⟩
  · obtain rfl : N = 0 := hn.symm
    obtain rfl : c = 0 := h.nil rfl
    clear h
    have q22 : ∀ (w : World) (a : Option Addr) (n c n' c' : Nat), (binOp .eql 23 (.slice a n c) (.slice none n' c')).run Tryz.prog w = .ok (.bool a.isNone) w := fun w a n c n' c' => Lib.run_eql_slice_nil w _ _ a n c n' c' Tryz.underlying23
    go_enter Tryz.func32, Tryz.ntmps32
    go_wp2
    go_ret
    exact ⟨_, rfl, AggsAt.nil _ _ _ _ _, Below.refl _ _⟩
  · have hown := World.ownsRow_made (e := 27) (size := 5) (base := w.heap.size) w #[] 0 (Nat.le_refl _) (by decide) rfl
    have bx := below_box w (.cells #[] 27)
    have OW := Lib.hid hown
    have BX := Lib.hid bx
    have HC := Lib.hid (hc.below bx)
    clear h hown bx hc
    have q22 : ∀ (w : World) (a : Option Addr) (n c n' c' : Nat), (binOp .eql 23 (.slice a n c) (.slice none n' c')).run Tryz.prog w = .ok (.bool a.isNone) w := fun w a n c n' c' => Lib.run_eql_slice_nil w _ _ a n c n' c' Tryz.underlying23
    go_enter Tryz.func32, Tryz.ntmps32
    go_wp2_with (at_builtin; refine wpList_append_own _ rfl (.tmp 5) (.tmp 6) 23 rfl w.heap.size 27 i0 _ 5 48 Tryz.underlying23 hi hz0 hz1 hz2 rfl (by decide) (.slice (some ⟨w.heap.size, 0, none⟩) 0 0) 0 [] rfl OW.out ⟨g, o, none⟩ N c (flat encPn ps) rfl ?qc1 ?qc2 ?qc3 ?qc4 ?qc5 ?qc6 ?_)
    case qc1 => rw [flat_length encPn_len, hn]
    case qc2 => exact cells_news HC.out
    case qc3 => exact flat_oneCell encPn_one _
    case qc4 => unfold maxLen; omega
    case qc5 => omega
    case qc6 => simp
    intro v1 w1 hown1 hgrow1 hn1
    have B1 := Lib.hid (BX.out.grown hgrow1 (by simp) (fun k hk => by simp [Value.ownBlock] at hk; omega))
    have A1 : Hid (AggsAt 27 5 encPn w1 w.heap.size v1 ps) := by
      show w1.ownsRow _ _ 5 v1 ps.length (flat encPn ps)
      rw [hn]
      have hh := hown1
      (try simp only [Nat.zero_add, List.nil_append] at hh)
      exact hh
    clear hown1 hgrow1 hn1
    go_wp2
    go_ret
    exact ⟨_, rfl, A1.out, B1.out⟩
/-- one more, behind the others -/
theorem ins_end {ps : List Pn} {p : Pn} {i n : Nat} (hn : ps.length = n) (hi : i = n) : flat encPn (ps.take i ++ p :: ps.drop i) = flat encPn ps ++ encPn p := by
  subst hi; subst hn
  rw [List.take_length, List.drop_length, flat_append, flat_one]
theorem flat_ins (ps : List Pn) (p : Pn) (i : Nat) : flat encPn (ps.take i ++ p :: ps.drop i) = (flat encPn ps).take (i * 5) ++ encPn p ++ (flat encPn ps).drop (i * 5) := by
  by_cases hi : i ≤ ps.length
  · have e : flat encPn ps = flat encPn (ps.take i) ++ flat encPn (ps.drop i) := by rw [← flat_append, List.take_append_drop]
    have hl : (flat encPn (ps.take i)).length = i * 5 := by rw [flat_length encPn_len, List.length_take, Nat.min_eq_left hi]
    rw [flat_append, flat_cons, e, List.take_left' hl, List.drop_left' hl, List.append_assoc]
  · have h1 : ps.take i = ps := List.take_of_length_le (by omega)
    have h2 : ps.drop i = [] := List.drop_of_length_le (by omega)
    have h3 : (flat encPn ps).length ≤ i * 5 := by rw [flat_length encPn_len]; omega
    rw [h1, h2, List.take_of_length_le h3, List.drop_of_length_le h3, flat_append, flat_one, List.append_nil]
theorem ins_len {ps : List Pn} {p : Pn} {i n : Nat} (hn : ps.length = n) (hi : i ≤ n) : (ps.take i ++ p :: ps.drop i).length = n + 1 := by
  rw [List.length_append, List.length_cons, List.length_take, List.length_drop]; omega
/-- what Insert leaves -/
def InsPost (base i : Nat) (v : Value) (ps : List Pn) (p : Pn) (w : World) (e : Ending) (w' : World) : Prop :=
  ∃ v', e = .returned v' ∧ AggsAt 27 5 encPn w' base v' (ps.take i ++ p :: ps.drop i) ∧ w.grownBy w' v.ownBlock
set_option maxRecDepth 100000 in
set_option maxHeartbeats 4000000 in
theorem insert_end (base q : Nat) (v : Value) (ps : List Pn) (p : Pn) (w : World) (hv : AggsAt 27 5 encPn w base v ps) (h64 : ps.length ≤ 64) (hb : base ≤ w.heap.size)
    (hq : w.heap[q]? = some (.cells #[.string p.nm, .int .i64 p.co, .int .i64 p.sk, .int .i64 p.fr, .int .i64 p.un] 27 (0, 0))) :
    Calls Tryz.prog 34 #[v, .int .i64 (ps.length : Nat), .slice (some ⟨q, 0, none⟩) 1 1] w (InsPost base ps.length v ps p w) := by
  obtain ⟨i0, hi, hz0, hz1, hz2⟩ := info_parts infoPn
  have HV : Hid (w.ownsRow base 27 5 v ps.length (flat encPn ps)) := hv
  have HQ : Hid (∀ j u, (encPn p)[j]? = some u → w.cell? ((⟨q, 0, none⟩ : Addr).add j) = some u) := fun j u hu => by
    rw [Go.WideShapes.add_plain, Nat.zero_add, (cell_at hq j).1]
    simpa [encPn] using hu
  obtain ⟨a, c, e, hac⟩ : ∃ a c, v = .slice a ps.length c ∧ ps.length ≤ c ∧ c ≤ maxLen := by
    rcases hv.2 with ⟨e, h0⟩ | ⟨g, cap, cur, e, _, _, h1, h2, _⟩
    · exact ⟨none, 0, by rw [e, h0], by omega, by decide⟩
    · exact ⟨_, _, e, h1, h2⟩
  obtain ⟨h1, h2⟩ := hac
  unfold maxLen at h2
  subst e
  obtain ⟨n, hn⟩ : ∃ n, ps.length = n := ⟨_, rfl⟩
  have HN := Lib.hid hn
  rw [hn] at HV h64 h1 ⊢
  clear hv hq hn
  go_enter Tryz.func34, Tryz.ntmps34
  go_wp2_with (at_builtin; refine wpList_append_own _ rfl (.tmp 23) (.tmp 24) 23 rfl base 27 i0 _ 5 48 Tryz.underlying23 hi hz0 hz1 hz2 rfl (by decide) (.slice a n c) n (flat encPn ps) rfl HV.out ⟨q, 0, none⟩ 1 1 (encPn p) rfl rfl HQ.out (encPn_one p) (by unfold maxLen; omega) (by omega) hb ?_)
  all_goals (
    intro v1 w1 hown1 hgrow1 hn1
    have A1 : Hid (AggsAt 27 5 encPn w1 base v1 (ps.take n ++ p :: ps.drop n)) := by
      show w1.ownsRow _ _ 5 v1 _ _
      rw [ins_len HN.out (Nat.le_refl _), ins_end HN.out rfl]
      exact hown1
    have G1 := Lib.hid hgrow1
    clear hown1 hgrow1 hn1
    go_wp2
    go_ret
    exact ⟨_, rfl, A1.out, by first | exact G1.out | (cases a <;> exact G1.out)⟩)
end Go.Proofs.YthdjpmiohfaphaaGreatDoor.reg
