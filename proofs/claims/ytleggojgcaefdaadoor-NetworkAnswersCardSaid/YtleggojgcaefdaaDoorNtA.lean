/- The small functions that NetworkAnswers calls: Gap, Operable, Mod, Light; what Way says is one thing alone. -/
import Derived.Test.YtleggojgcaefdaaDoorNetX
import Derived.Test.YtleggojgcaefdaaDoorNetW
namespace Go.Proofs.YtleggojgcaefdaaDoor.net
open Go.RowKit lex aggs kit deck

set_option maxRecDepth 100000 in
theorem gap_is (k : Int) (w : World) : Calls Tryd.prog 33 #[.int .i64 k] w fun e w' => e = .returned (.bool (decide (k = 1 ∨ k = 3 ∨ k = 6))) ∧ w = w' := by
  by_cases h1 : k = 1
  · subst h1
    go_enter Tryd.func33, Tryd.ntmps33
    go_wp2
    go_ret
    exact ⟨rfl, rfl⟩
  · by_cases h3 : k = 3
    · subst h3
      go_enter Tryd.func33, Tryd.ntmps33
      go_wp2
      go_ret
      exact ⟨rfl, rfl⟩
    · by_cases h6 : k = 6
      · subst h6
        go_enter Tryd.func33, Tryd.ntmps33
        go_wp2
        go_ret
        exact ⟨rfl, rfl⟩
      · have e : decide (k = 1 ∨ k = 3 ∨ k = 6) = false := decide_eq_false (by omega)
        rw [e]
        have T1 : (k == 1) = false := beq_eq_false_iff_ne.2 h1
        have T3 : (k == 3) = false := beq_eq_false_iff_ne.2 h3
        have T6 : (k == 6) = false := beq_eq_false_iff_ne.2 h6
        clear e h1 h3 h6
        go_enter Tryd.func33, Tryd.ntmps33
        go_wp2
        go_ret
        exact ⟨rfl, rfl⟩
set_option maxRecDepth 100000 in
theorem rgap_is (k : Int) (w : World) : Calls Tryd.prog 34 #[.int .i64 k] w fun e w' => e = .returned (.bool (decide (k = 1 ∨ k = 3 ∨ k = 6))) ∧ w = w' := by
  by_cases h1 : k = 1
  · subst h1
    go_enter Tryd.func34, Tryd.ntmps34
    go_wp2
    go_ret
    exact ⟨rfl, rfl⟩
  · by_cases h3 : k = 3
    · subst h3
      go_enter Tryd.func34, Tryd.ntmps34
      go_wp2
      go_ret
      exact ⟨rfl, rfl⟩
    · by_cases h6 : k = 6
      · subst h6
        go_enter Tryd.func34, Tryd.ntmps34
        go_wp2
        go_ret
        exact ⟨rfl, rfl⟩
      · have e : decide (k = 1 ∨ k = 3 ∨ k = 6) = false := decide_eq_false (by omega)
        rw [e]
        have T1 : (k == 1) = false := beq_eq_false_iff_ne.2 h1
        have T3 : (k == 3) = false := beq_eq_false_iff_ne.2 h3
        have T6 : (k == 6) = false := beq_eq_false_iff_ne.2 h6
        clear e h1 h3 h6
        go_enter Tryd.func34, Tryd.ntmps34
        go_wp2
        go_ret
        exact ⟨rfl, rfl⟩
set_option maxRecDepth 100000 in
theorem oper_is (k : Int) (w : World) : Calls Tryd.prog 35 #[.int .i64 k] w fun e w' => e = .returned (.bool (decide (1 ≤ k ∧ k ≤ 6 ∧ k ≠ 5))) ∧ w = w' := by
  by_cases h : 1 ≤ k ∧ k ≤ 6
  · have K := Lib.hid (fun w => isKind_is k true (decide_eq_true h) w)
    by_cases h5 : k = 5
    · subst h5
      clear h
      go_enter Tryd.func35, Tryd.ntmps35
      go_wp2_with fail
      refine (K.out _).mono ?_; rintro e w' ⟨rfl, rfl⟩
      go_wp2
      go_ret
      exact ⟨rfl, rfl⟩
    · have e : decide (1 ≤ k ∧ k ≤ 6 ∧ k ≠ 5) = true := decide_eq_true (by omega)
      rw [e]
      have T : (k != 5) = true := by rw [bne_iff_ne]; exact h5
      clear e h h5
      go_enter Tryd.func35, Tryd.ntmps35
      go_wp2_with fail
      refine (K.out _).mono ?_; rintro e w' ⟨rfl, rfl⟩
      go_wp2
      go_ret
      exact ⟨rfl, rfl⟩
  · have K := Lib.hid (fun w => isKind_is k false (decide_eq_false h) w)
    have e : decide (1 ≤ k ∧ k ≤ 6 ∧ k ≠ 5) = false := decide_eq_false (by omega)
    rw [e]
    clear e h
    go_enter Tryd.func35, Tryd.ntmps35
    go_wp2_with fail
    refine (K.out _).mono ?_; rintro e w' ⟨rfl, rfl⟩
    go_wp2
    go_ret
    exact ⟨rfl, rfl⟩
set_option maxRecDepth 100000 in
theorem roper_is (k : Int) (w : World) : Calls Tryd.prog 36 #[.int .i64 k] w fun e w' => e = .returned (.bool (decide (1 ≤ k ∧ k ≤ 6 ∧ k ≠ 5))) ∧ w = w' := by
  by_cases h1 : 1 ≤ k
  · by_cases h6 : k ≤ 6
    · by_cases h5 : k = 5
      · subst h5
        clear h1 h6
        go_enter Tryd.func36, Tryd.ntmps36
        go_wp2
        go_ret
        exact ⟨rfl, rfl⟩
      · have e : decide (1 ≤ k ∧ k ≤ 6 ∧ k ≠ 5) = true := decide_eq_true (by omega)
        rw [e]
        have T : (k != 5) = true := by rw [bne_iff_ne]; exact h5
        have T1 : decide (1 ≤ k) = true := decide_eq_true h1
        have T2 : decide (k ≤ 6) = true := decide_eq_true h6
        clear e h5 h1 h6
        go_enter Tryd.func36, Tryd.ntmps36
        go_wp2
        go_ret
        exact ⟨rfl, rfl⟩
    · have e : decide (1 ≤ k ∧ k ≤ 6 ∧ k ≠ 5) = false := decide_eq_false (by omega)
      rw [e]
      have T1 : decide (1 ≤ k) = true := decide_eq_true h1
      have T2 : decide (k ≤ 6) = false := decide_eq_false h6
      clear e h1 h6
      go_enter Tryd.func36, Tryd.ntmps36
      go_wp2
      go_ret
      exact ⟨rfl, rfl⟩
  · have e : decide (1 ≤ k ∧ k ≤ 6 ∧ k ≠ 5) = false := decide_eq_false (by omega)
    rw [e]
    have T1 : decide (1 ≤ k) = false := decide_eq_false h1
    clear e h1
    go_enter Tryd.func36, Tryd.ntmps36
    go_wp2
    go_ret
    exact ⟨rfl, rfl⟩
set_option maxRecDepth 100000 in
theorem mod9_is (n : Int) (w : World) (n0 : -9223372036854775808 ≤ n) (n1 : n ≤ 9223372036854775807) : Calls Tryd.prog 30 #[.int .i64 n, .int .i64 9] w fun e w' => (∃ r : Int, e = .returned (.int .i64 r) ∧ 0 ≤ r ∧ r ≤ 8) ∧ w = w' := by
  obtain ⟨q, hq⟩ : ∃ q, n.tmod 9 = q := ⟨_, rfl⟩
  have hq1 : -8 ≤ q ∧ q ≤ 8 := by
    rw [← hq]
    by_cases h : 0 ≤ n
    · rw [Int.tmod_eq_emod_of_nonneg h]; omega
    · obtain ⟨m, rfl⟩ : ∃ m, n = -m := ⟨-n, by omega⟩
      rw [Int.neg_tmod, Int.tmod_eq_emod_of_nonneg (by omega)]; omega
  have w1 : IntKind.i64.wrap (n.tmod 9) = q := by rw [hq, IntKind.wrap_i64]; omega
  have w2 : IntKind.i64.wrap (q + 9) = q + 9 := by rw [IntKind.wrap_i64]; omega
  obtain ⟨r, hr⟩ : ∃ r, (q + 9).tmod 9 = r := ⟨_, rfl⟩
  have hr1 : 0 ≤ r ∧ r ≤ 8 := by rw [← hr, Int.tmod_eq_emod_of_nonneg (by omega)]; omega
  have w3 : IntKind.i64.wrap r = r := by rw [IntKind.wrap_i64]; omega
  have w4 : IntKind.i64.wrap q = q := by rw [IntKind.wrap_i64]; omega
  have HR1 := Lib.hid hr1
  go_enter Tryd.func30, Tryd.ntmps30
  go_wp2
  go_ret
  exact ⟨⟨_, rfl, HR1.out.1, HR1.out.2⟩, rfl⟩
set_option maxRecDepth 100000 in
set_option maxHeartbeats 2000000 in
theorem light_is (a b : Option Addr) (N c M d : Nat) (ns : List Nd) (ds : List Dv) (w : World) (h : NetIn w a b N c M d ns ds) :
    Calls Tryd.prog 10 #[.agg #[.slice a N c, .slice b M d]] w fun e w' => (∃ r : Bool, e = .returned (.bool r)) ∧ Below w.heap.size w w' := by
  have bx := below_box w (.cells #[.slice a N c, .slice b M d] 26)
  have NT := Lib.hid (NtAt.new w (.slice a N c) (.slice b M d) 26)
  have hb := Lib.hid (h.below bx)
  obtain ⟨E, hE⟩ : ∃ E, chk ns ds = E := ⟨_, rfl⟩
  have CK := Lib.hid (rcheck_is a b N c M d ns ds E _ hb.out hE)
  have BX := Lib.hid bx
  clear bx hE h
  obtain ⟨p1, hp1⟩ : ∃ p, decide ((N : Int) ≤ 40) = p := ⟨_, rfl⟩
  obtain ⟨p2, hp2⟩ : ∃ p, decide ((M : Int) ≤ 14) = p := ⟨_, rfl⟩
  obtain ⟨p3, hp3⟩ : ∃ p, decide ((N : Int) ≤ 100) = p := ⟨_, rfl⟩
  obtain ⟨p4, hp4⟩ : ∃ p, decide ((M : Int) ≤ 200) = p := ⟨_, rfl⟩
  by_cases e0 : p1 = true ∧ p2 = true
  · obtain ⟨rfl, rfl⟩ := e0
    go_enter Tryd.func10, Tryd.ntmps10
    go_wp2
    go_ret
    exact ⟨⟨_, rfl⟩, BX.out⟩
  · have e1 : p1 = false ∨ p1 = true ∧ p2 = false := by cases p1 <;> cases p2 <;> simp_all
    clear e0
    by_cases eE : E = 0
    · subst eE
      rcases e1 with rfl | ⟨rfl, rfl⟩
      all_goals (
        go_enter Tryd.func10, Tryd.ntmps10
        go_wp2_with fail
        refine CK.out.mono ?_; rintro e w2 ⟨rfl, b2⟩
        have B2 := Lib.hid (BX.out.trans (b2.mono BX.out.size))
        clear b2
        go_wp2
        go_ret
        exact ⟨⟨_, rfl⟩, B2.out⟩)
    · have T := bne_t eE
      clear eE
      rcases e1 with rfl | ⟨rfl, rfl⟩
      all_goals (cases p3)
      all_goals (cases p4)
      all_goals (
        go_enter Tryd.func10, Tryd.ntmps10
        go_wp2_with fail
        refine CK.out.mono ?_; rintro e w2 ⟨rfl, b2⟩
        have B2 := Lib.hid (BX.out.trans (b2.mono BX.out.size))
        obtain ⟨k1, k2, k3⟩ := NT.out.below b2 NT.out.2.2
        clear b2
        go_wp2
        go_ret
        exact ⟨⟨_, rfl⟩, B2.out⟩)
theorem wayL_eq {G : Nat → Nat → Int} {M N to : Nat} {D D' : Nat → Int} (hG : Sym G M N) (h : IsDist G M N to D) (h' : IsDist G M N to D') : ∀ (n v : Nat), v < N → D v = n → wayL G M D n v = wayL G M D' n v := by
  have e := fun v hv => h.eq hG h' v hv
  intro n
  induction n with
  | zero => intro v _ _; rfl
  | succ n ih =>
    intro v hv hD
    have en : nxt G M D v = nxt G M D' v := by
      unfold nxt
      have key : ∀ m, m ≤ M → fi (nearB G D v) m = fi (nearB G D' v) m := by
        intro m
        induction m with
        | zero => intro _; rfl
        | succ m ihm =>
          intro hm
          have hp : nearB G D v m = nearB G D' v m := by
            unfold nearB
            rcases hG m (by omega) v hv with e1 | ⟨u, hu, e1, _⟩
            · rw [e1]; rfl
            · rw [e1, Int.toNat_natCast, e u hu, e v hv]
          rw [fi, fi, ihm (by omega), hp]
      exact key M (Nat.le_refl _)
    obtain ⟨_, ⟨u, hu, e1, e2⟩, _⟩ := h.next hG v hv (by omega)
    rw [wayL, wayL, ← en, e1, Int.toNat_natCast, ih u hu (by omega)]
/-- what Way says is one thing alone -/
theorem WayIs.one {ns : List Nd} {ds : List Dv} {us : List Bool} {f t : Int} {xs xs' : List Nat} {ok ok' : Bool} {er er' : Int} (h : WayIs ns ds us f t xs ok er) (h' : WayIs ns ds us f t xs' ok' er') : xs = xs' ∧ ok = ok' ∧ er = er' := by
  unfold WayIs at h h'
  by_cases hc : chk ns ds = 0
  · rw [if_pos hc] at h h'
    by_cases hl : us.length = ds.length
    · rw [if_pos hl] at h h'
      by_cases hn : (0 ≤ f ∧ f < ns.length) ∧ (0 ≤ t ∧ t < ns.length)
      · rw [if_pos hn] at h h'
        obtain ⟨rfl, D, hD, h⟩ := h
        obtain ⟨rfl, D', hD', h'⟩ := h'
        have hG := nb_sym (us := us) (N := ns.length) (fun i hi => chk_its hc i hi)
        have hf : f.toNat < ns.length := by omega
        have e := hD.eq hG hD' f.toNat hf
        rcases h with ⟨h1, rfl, rfl⟩ | ⟨n, h1, rfl, rfl⟩
        · rcases h' with ⟨_, rfl, rfl⟩ | ⟨n', h2, rfl, rfl⟩
          · exact ⟨rfl, rfl, rfl⟩
          · omega
        · rcases h' with ⟨h2, rfl, rfl⟩ | ⟨n', h2, rfl, rfl⟩
          · omega
          · obtain rfl : n = n' := by omega
            exact ⟨wayL_eq hG hD hD' n _ hf h1, rfl, rfl⟩
      · rw [if_neg hn] at h h'
        obtain ⟨rfl, rfl, rfl⟩ := h
        obtain ⟨rfl, rfl, rfl⟩ := h'
        exact ⟨rfl, rfl, rfl⟩
    · rw [if_neg hl] at h h'
      obtain ⟨rfl, rfl, rfl⟩ := h
      obtain ⟨rfl, rfl, rfl⟩ := h'
      exact ⟨rfl, rfl, rfl⟩
  · rw [if_neg hc] at h h'
    obtain ⟨rfl, rfl, rfl⟩ := h
    obtain ⟨rfl, rfl, rfl⟩ := h'
    exact ⟨rfl, rfl, rfl⟩
/-- a way passes fewer devices than there are nodes -/
theorem WayIs.short {ns : List Nd} {ds : List Dv} {us : List Bool} {f t : Int} {xs : List Nat} {ok : Bool} {er : Int} (h : WayIs ns ds us f t xs ok er) : xs.length ≤ 32 := by
  unfold WayIs at h
  by_cases hc : chk ns ds = 0
  · rw [if_pos hc] at h
    by_cases hl : us.length = ds.length
    · rw [if_pos hl] at h
      by_cases hn : (0 ≤ f ∧ f < ns.length) ∧ (0 ≤ t ∧ t < ns.length)
      · rw [if_pos hn] at h
        obtain ⟨-, D, hD, h⟩ := h
        rcases h with ⟨_, _, rfl⟩ | ⟨n, h1, _, rfl⟩
        · exact Nat.zero_le _
        · rw [wayL_length]
          have := hD.lt f.toNat (by omega)
          have := (chk_small hc).1
          omega
      · rw [if_neg hn] at h; rw [h.2.2]; exact Nat.zero_le _
    · rw [if_neg hl] at h; rw [h.2.2]; exact Nat.zero_le _
  · rw [if_neg hc] at h; rw [h.2.2]; exact Nat.zero_le _
theorem atR_short (ns : List Nd) (ds : List Dv) (v : Int) : (atR ns ds v).length ≤ 64 := by
  unfold atR
  split
  · rename_i h
    unfold atL
    have := List.length_filter_le (atB ds v) (List.range ds.length)
    have := (chk_small h.1).2
    simp at *; omega
  · exact Nat.zero_le _
end Go.Proofs.YtleggojgcaefdaaDoor.net
