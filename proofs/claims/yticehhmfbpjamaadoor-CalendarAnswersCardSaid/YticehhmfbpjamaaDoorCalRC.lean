/- The walks of the reference of layer 2, third part: Parse. It computes what the program's own function computes. -/
import Derived.Test.YticehhmfbpjamaaDoorCalRB
namespace Go.Proofs.YticehhmfbpjamaaDoor.cal
open Go.RowKit strs lex

theorem six (s : ByteArray) (h : 7 ≤ s.size) : s.data.toList = s.data.toList.take (s.size - 6) ++ [s[s.size - 6], s[s.size - 5], s[s.size - 4], s[s.size - 3], s[s.size - 2], s[s.size - 1]] := by
  have hl : s.data.toList.length = s.size := by simp
  have e : ∀ k (hk : k < s.data.toList.length), s.data.toList.drop k = s[k]'(by omega) :: s.data.toList.drop (k + 1) := fun k hk => List.drop_eq_getElem_cons hk
  have e6 := e (s.size - 6) (by omega)
  have e5 := e (s.size - 5) (by omega)
  have e4 := e (s.size - 4) (by omega)
  have e3 := e (s.size - 3) (by omega)
  have e2 := e (s.size - 2) (by omega)
  have e1 := e (s.size - 1) (by omega)
  rw [show s.size - 6 + 1 = s.size - 5 from by omega, e5, show s.size - 5 + 1 = s.size - 4 from by omega, e4, show s.size - 4 + 1 = s.size - 3 from by omega, e3, show s.size - 3 + 1 = s.size - 2 from by omega, e2, show s.size - 2 + 1 = s.size - 1 from by omega, e1, show s.size - 1 + 1 = s.size from by omega, List.drop_eq_nil_of_le (i := s.size) (by omega)] at e6
  rw [← e6, List.take_append_drop]
theorem rp_is (s : ByteArray) (h : 7 ≤ s.size) : progB s.data.toList = refB (s.data.toList.take (s.size - 6)) s[s.size - 6] s[s.size - 5] s[s.size - 4] s[s.size - 3] s[s.size - 2] s[s.size - 1] := by
  rw [ref_prog, ← six s h]
theorem isD_no {x : UInt8} (h : x.toNat < 48 ∨ 57 < x.toNat) : isD x = false := by unfold isD; exact decide_eq_false (by omega)
theorem isD_yes {x : UInt8} (h : 48 ≤ x.toNat) (h1 : x.toNat ≤ 57) : isD x = true := decide_eq_true ⟨h, h1⟩
theorem not_byte {x c : UInt8} (h : x.toNat ≠ c.toNat) : decide (x = c) = false := decide_eq_false (fun e => h (by rw [e]))
theorem rp_bad (s : ByteArray) (h : 7 ≤ s.size) (hb : s[s.size - 6].toNat ≠ 47 ∨ s[s.size - 3].toNat ≠ 58 ∨ (s[s.size - 5].toNat < 48 ∨ 57 < s[s.size - 5].toNat) ∨ (s[s.size - 4].toNat < 48 ∨ 57 < s[s.size - 4].toNat) ∨ (s[s.size - 2].toNat < 48 ∨ 57 < s[s.size - 2].toNat) ∨ (s[s.size - 1].toNat < 48 ∨ 57 < s[s.size - 1].toNat)) :
    progB s.data.toList = false := by
  rw [rp_is s h]
  unfold refB
  rcases hb with hb | hb | hb | hb | hb | hb
  · rw [not_byte (c := 47) hb]; simp
  · rw [not_byte (c := 58) hb]; simp
  · rw [isD_no hb]; simp
  · rw [isD_no hb]; simp
  · rw [isD_no hb]; simp
  · rw [isD_no hb]; simp
theorem rp_good (s : ByteArray) (h : 7 ≤ s.size) (h1 : s[s.size - 6].toNat = 47) (h4 : s[s.size - 3].toNat = 58) (d2 : 48 ≤ s[s.size - 5].toNat ∧ s[s.size - 5].toNat ≤ 57) (d3 : 48 ≤ s[s.size - 4].toNat ∧ s[s.size - 4].toNat ≤ 57) (d5 : 48 ≤ s[s.size - 2].toNat ∧ s[s.size - 2].toNat ≤ 57) (d6 : 48 ≤ s[s.size - 1].toNat ∧ s[s.size - 1].toNat ≤ 57) :
    progB s.data.toList = (numB (s.data.toList.take (s.size - 6)) 16777216 && mkOk (val (s.data.toList.take (s.size - 6))) (10 * dg s[s.size - 5] + dg s[s.size - 4]) (10 * dg s[s.size - 2] + dg s[s.size - 1])) := by
  rw [rp_is s h]
  unfold refB
  rw [isD_yes d2.1 d2.2, isD_yes d3.1 d3.2, isD_yes d5.1 d5.2, isD_yes d6.1 d6.2, decide_eq_true (UInt8.toNat_inj.1 (h1.trans (show (47 : Nat) = (47 : UInt8).toNat from rfl))), decide_eq_true (UInt8.toNat_inj.1 (h4.trans (show (58 : Nat) = (58 : UInt8).toNat from rfl)))]
  simp
theorem rp_val (s : ByteArray) (h : 7 ≤ s.size) (hp : progB s.data.toList = true) : progV s.data.toList = 1440 * (val (s.data.toList.take (s.size - 6)) : Int) + 60 * (10 * dg s[s.size - 5] + dg s[s.size - 4]) + (10 * dg s[s.size - 2] + dg s[s.size - 1]) := by
  rw [rp_is s h] at hp
  have := ref_val hp
  rwa [← six s h] at this

set_option maxRecDepth 100000 in
theorem rparse_short (s : ByteArray) (h7 : s.size < 7) (w : World) :
    Calls Tryd.prog 20 #[.string s] w fun e w' => e = .returned (.tuple #[.int .i64 (paV s.data.toList), .int .i64 (paE s.data.toList)]) ∧ Below w.heap.size w w' := by
  have HN := Lib.hid (prog_short (l := s.data.toList) (by simpa using h7))
  have t1 : decide ((s.size : Int) < 7) = true := decide_eq_true (by omega)
  go_enter Tryd.func20, Tryd.ntmps20
  go_wp2
  go_ret2
  exact ⟨ret_pair (by unfold paV; rw [if_neg (by rw [HN.out]; exact Bool.false_ne_true)]) (by unfold paE; rw [if_neg (by rw [HN.out]; exact Bool.false_ne_true)]), Below.refl _ _⟩

set_option maxRecDepth 100000 in
set_option maxHeartbeats 1000000 in
/-- a separator is missing -/
theorem rparse_sep (s : ByteArray) (h7 : 7 ≤ s.size) (hl : s.size ≤ 4294967296) (hb : s[s.size - 6].toNat ≠ 47 ∨ s[s.size - 3].toNat ≠ 58) (w : World) :
    Calls Tryd.prog 20 #[.string s] w fun e w' => e = .returned (.tuple #[.int .i64 (paV s.data.toList), .int .i64 (paE s.data.toList)]) ∧ Below w.heap.size w w' := by
  have HN := Lib.hid (rp_bad s h7 (by omega))
  have t1 : decide ((s.size : Int) < 7) = false := decide_eq_false (by omega)
  by_cases c1 : s[s.size - 6].toNat = 47
  · have q1 : ((s[s.size - 6].toNat : Int) != 47) = false := by rw [c1]; rfl
    have q4 : ((s[s.size - 3].toNat : Int) != 58) = true := by rw [bne_iff_ne]; omega
    clear hb c1
    go_enter Tryd.func20, Tryd.ntmps20
    go_wp2
    go_ret2
    exact ⟨ret_pair (by unfold paV; rw [if_neg (by rw [HN.out]; exact Bool.false_ne_true)]) (by unfold paE; rw [if_neg (by rw [HN.out]; exact Bool.false_ne_true)]), Below.refl _ _⟩
  · have q1 : ((s[s.size - 6].toNat : Int) != 47) = true := by rw [bne_iff_ne]; omega
    clear hb c1
    go_enter Tryd.func20, Tryd.ntmps20
    go_wp2
    go_ret2
    exact ⟨ret_pair (by unfold paV; rw [if_neg (by rw [HN.out]; exact Bool.false_ne_true)]) (by unfold paE; rw [if_neg (by rw [HN.out]; exact Bool.false_ne_true)]), Below.refl _ _⟩

set_option maxRecDepth 100000 in
set_option maxHeartbeats 4000000 in
theorem rparse_walk (s : ByteArray) (h7 : 7 ≤ s.size) (hl : s.size ≤ 4294967296) (q1 : ((s[s.size - 6].toNat : Int) != 47) = false) (q4 : ((s[s.size - 3].toNat : Int) != 58) = false) (vd v x : Int) (td : Bool) (w : World)
    (HC : Hid (∀ w, Calls Tryd.prog 45 #[.string (s.extract 0 (s.size - 6)), .int .i64 16777216] w fun e w' => e = .returned (.tuple #[.int .i64 vd, .bool td]) ∧ w = w'))
    (HM : Hid (∀ w, Calls Tryd.prog 12 #[.int .i64 vd, .int .i64 (10 * (s[s.size - 5].toNat - 48) + (s[s.size - 4].toNat - 48)), .int .i64 (10 * (s[s.size - 2].toNat - 48) + (s[s.size - 1].toNat - 48))] w fun e w' => e = .returned (.tuple #[.int .i64 v, .int .i64 x]) ∧ w = w'))
    (HG : Hid ((48 ≤ s[s.size - 5].toNat ∧ s[s.size - 5].toNat ≤ 57) → (48 ≤ s[s.size - 4].toNat ∧ s[s.size - 4].toNat ≤ 57) → (48 ≤ s[s.size - 2].toNat ∧ s[s.size - 2].toNat ≤ 57) → (48 ≤ s[s.size - 1].toNat ∧ s[s.size - 1].toNat ≤ 57) →
      (td = true ∧ x = 0 ∧ paV s.data.toList = v ∧ paE s.data.toList = 0) ∨ ((td = false ∨ x ≠ 0) ∧ progB s.data.toList = false))) :
    Calls Tryd.prog 20 #[.string s] w fun e w' => e = .returned (.tuple #[.int .i64 (paV s.data.toList), .int .i64 (paE s.data.toList)]) ∧ Below w.heap.size w w' := by
  have t1 : decide ((s.size : Int) < 7) = false := decide_eq_false (by omega)
  go_enter Tryd.func20, Tryd.ntmps20
  go_wp2_with fail
  refine (HC.out _).mono ?_; rintro e w' ⟨rfl, rfl⟩
  go_wp2
  refine wp_loop_rounds 5 ?_
  rw [rounds_succ]
  go_wp2
  all_goals first
    | (go_ret2; refine ⟨ret_pair (by unfold paV; rw [if_neg (by rw [rp_bad s h7 (by omega)]; exact Bool.false_ne_true)]) (by unfold paE; rw [if_neg (by rw [rp_bad s h7 (by omega)]; exact Bool.false_ne_true)]), ?_⟩; exact ((Below.refl _ _).alloc (Nat.le_refl _) _).alloc (by simp) _)
    | skip
  rw [rounds_succ]
  go_wp2
  all_goals first
    | (go_ret2; refine ⟨ret_pair (by unfold paV; rw [if_neg (by rw [rp_bad s h7 (by omega)]; exact Bool.false_ne_true)]) (by unfold paE; rw [if_neg (by rw [rp_bad s h7 (by omega)]; exact Bool.false_ne_true)]), ?_⟩; exact ((Below.refl _ _).alloc (Nat.le_refl _) _).alloc (by simp) _)
    | skip
  rw [rounds_succ]
  go_wp2
  all_goals first
    | (go_ret2; refine ⟨ret_pair (by unfold paV; rw [if_neg (by rw [rp_bad s h7 (by omega)]; exact Bool.false_ne_true)]) (by unfold paE; rw [if_neg (by rw [rp_bad s h7 (by omega)]; exact Bool.false_ne_true)]), ?_⟩; exact ((Below.refl _ _).alloc (Nat.le_refl _) _).alloc (by simp) _)
    | skip
  rw [rounds_succ]
  go_wp2
  all_goals first
    | (go_ret2; refine ⟨ret_pair (by unfold paV; rw [if_neg (by rw [rp_bad s h7 (by omega)]; exact Bool.false_ne_true)]) (by unfold paE; rw [if_neg (by rw [rp_bad s h7 (by omega)]; exact Bool.false_ne_true)]), ?_⟩; exact ((Below.refl _ _).alloc (Nat.le_refl _) _).alloc (by simp) _)
    | skip
  rw [rounds_succ]
  go_wp2_with fail
  refine (HM.out _).mono ?_; rintro e w' ⟨rfl, rfl⟩
  rcases HG.out (by omega) (by omega) (by omega) (by omega) with ⟨rfl, rfl, hv, hx⟩ | ⟨h, hp⟩
  · have HV := Lib.hid hv
    have HX := Lib.hid hx
    clear hv hx
    go_wp2
    go_ret2
    refine ⟨ret_pair HV.out.symm HX.out.symm, ?_⟩
    exact ((Below.refl _ _).alloc (Nat.le_refl _) _).alloc (by simp) _
  · have HN := Lib.hid hp
    clear hp
    cases td with
    | false =>
      clear h
      go_wp2
      go_ret2
      refine ⟨ret_pair (by unfold paV; rw [if_neg (by rw [HN.out]; exact Bool.false_ne_true)]) (by unfold paE; rw [if_neg (by rw [HN.out]; exact Bool.false_ne_true)]), ?_⟩
      exact ((Below.refl _ _).alloc (Nat.le_refl _) _).alloc (by simp) _
    | true =>
      have tx : (x != 0) = true := by rw [bne_iff_ne]; rcases h with h | h; cases h; exact h
      clear h
      go_wp2
      go_ret2
      refine ⟨ret_pair (by unfold paV; rw [if_neg (by rw [HN.out]; exact Bool.false_ne_true)]) (by unfold paE; rw [if_neg (by rw [HN.out]; exact Bool.false_ne_true)]), ?_⟩
      exact ((Below.refl _ _).alloc (Nat.le_refl _) _).alloc (by simp) _
theorem rparse_any (s : ByteArray) (hl : s.size ≤ 4294967296) (w : World) :
    Calls Tryd.prog 20 #[.string s] w fun e w' => e = .returned (.tuple #[.int .i64 (paV s.data.toList), .int .i64 (paE s.data.toList)]) ∧ Below w.heap.size w w' := by
  by_cases h7 : 7 ≤ s.size
  · by_cases hb : s[s.size - 6].toNat ≠ 47 ∨ s[s.size - 3].toNat ≠ 58
    · exact rparse_sep s h7 hl hb w
    · have c1 : s[s.size - 6].toNat = 47 := by omega
      have c4 : s[s.size - 3].toNat = 58 := by omega
      have ext : (s.extract 0 (s.size - 6)).data.toList = s.data.toList.take (s.size - 6) := by rw [Lib.extract_data]; simp
      have hex : (s.extract 0 (s.size - 6)).size ≤ maxLen := by rw [ByteArray.size_extract]; unfold maxLen; omega
      obtain ⟨vd, hvd⟩ : ∃ v, numV (s.data.toList.take (s.size - 6)) 16777216 = v := ⟨_, rfl⟩
      obtain ⟨td, htd⟩ : ∃ v, numB (s.data.toList.take (s.size - 6)) 16777216 = v := ⟨_, rfl⟩
      obtain ⟨v, hv⟩ : ∃ v, mkV vd (10 * dg s[s.size - 5] + dg s[s.size - 4]) (10 * dg s[s.size - 2] + dg s[s.size - 1]) = v := ⟨_, rfl⟩
      obtain ⟨x, hx⟩ : ∃ v, mkE vd (10 * dg s[s.size - 5] + dg s[s.size - 4]) (10 * dg s[s.size - 2] + dg s[s.size - 1]) = v := ⟨_, rfl⟩
      refine rparse_walk s h7 hl (by rw [c1]; rfl) (by rw [c4]; rfl) vd v x td w ?_ ?_ ?_
      · intro w
        have := rnumber_any (s.extract 0 (s.size - 6)) 16777216 w hex (by omega) (by omega)
        rwa [ext, hvd, htd] at this
      · intro w; exact rmake_is _ _ _ v x hv hx w
      · intro d2 d3 d5 d6
        have hp := rp_good s h7 c1 c4 d2 d3 d5 d6
        rw [htd] at hp
        cases td with
        | false => right; exact ⟨.inl rfl, by rw [hp]; rfl⟩
        | true =>
          have evd : (val (s.data.toList.take (s.size - 6)) : Int) = vd := by rw [← hvd]; unfold numV; rw [if_pos htd]
          rw [evd, Bool.true_and] at hp
          by_cases ho : mkOk vd (10 * dg s[s.size - 5] + dg s[s.size - 4]) (10 * dg s[s.size - 2] + dg s[s.size - 1]) = true
          · left
            rw [ho] at hp
            have hpv := rp_val s h7 hp
            rw [evd] at hpv
            unfold mkE at hx
            unfold mkV at hv
            rw [if_pos ho] at hx hv
            refine ⟨rfl, hx.symm, ?_, ?_⟩
            · unfold paV; rw [if_pos hp, hpv, hv]
            · unfold paE; rw [if_pos hp]
          · right
            unfold mkE at hx
            rw [if_neg ho] at hx
            exact ⟨.inr (by omega), by rw [hp]; exact Bool.eq_false_iff.2 ho⟩
  · exact rparse_short s (by omega) w
theorem rparse_at (s : ByteArray) (l : List UInt8) (hs : s = bs l) (v x : Int) (hv : paV l = v) (hx : paE l = x) (hl : l.length ≤ 4294967296) (w : World) :
    Calls Tryd.prog 20 #[.string s] w fun e w' => e = .returned (.tuple #[.int .i64 v, .int .i64 x]) ∧ Below w.heap.size w w' := by
  subst hs hv hx
  have := rparse_any (bs l) (by rw [bs_size]; exact hl) w
  rwa [bs_data] at this
end Go.Proofs.YticehhmfbpjamaaDoor.cal
