/- The walks of layer 3 on one network: kinds, names, Check. Condition: the table 'classes' holds what its text lays. -/
import Derived.Test.YtoeojhabhnoojaaDoorNetM
import Derived.Test.YtoeojhabhnoojaaDoorNamP
import Derived.Test.YtoeojhabhnoojaaDoorRin
import Derived.Test.YtoeojhabhnoojaaDoorKit
import Derived.Deep.QuietTactic
import Derived.BigQuiet
namespace Go.Proofs.YtoeojhabhnoojaaDoor.net
open Go.RowKit lex aggs kit

def encNd (x : Nd) : List Value := [.string x.nm, .int .i64 x.cu, .int .i64 x.co]
def encDv (d : Dv) : List Value := [.string d.nm, .int .i64 d.ki, .int .i64 d.a, .int .i64 d.b, .int .i64 d.co]
theorem encNd_len (x : Nd) : (encNd x).length = 3 := rfl
theorem encDv_len (x : Dv) : (encDv x).length = 5 := rfl
theorem encNd_one (x : Nd) : ∀ v ∈ encNd x, v.oneCell' = true := by
  intro v hv; simp [encNd] at hv; rcases hv with rfl | rfl | rfl <;> rfl
theorem encDv_one (x : Dv) : ∀ v ∈ encDv x, v.oneCell' = true := by
  intro v hv; simp [encDv] at hv; rcases hv with rfl | rfl | rfl | rfl | rfl <;> rfl
theorem cells_nd {w : World} {b off : Nat} {ns : List Nd} (h : CellsAt encNd 3 w b off ns) (j : Nat) (hj : j < ns.length) :
    w.cell? ⟨b, off + j * 3, none⟩ = some (.string ns[j].nm) ∧ w.cell? ⟨b, off + j * 3 + 1, none⟩ = some (.int .i64 ns[j].cu) ∧ w.cell? ⟨b, off + j * 3 + 2, none⟩ = some (.int .i64 ns[j].co) :=
  ⟨h.get encNd_len j hj 0 (by decide) _ rfl, by rw [Nat.add_assoc]; exact h.get encNd_len j hj 1 (by decide) _ rfl, by rw [Nat.add_assoc]; exact h.get encNd_len j hj 2 (by decide) _ rfl⟩
theorem cells_dv {w : World} {b off : Nat} {ds : List Dv} (h : CellsAt encDv 5 w b off ds) (j : Nat) (hj : j < ds.length) :
    w.cell? ⟨b, off + j * 5, none⟩ = some (.string ds[j].nm) ∧ w.cell? ⟨b, off + j * 5 + 1, none⟩ = some (.int .i64 ds[j].ki) ∧ w.cell? ⟨b, off + j * 5 + 2, none⟩ = some (.int .i64 ds[j].a) ∧ w.cell? ⟨b, off + j * 5 + 3, none⟩ = some (.int .i64 ds[j].b) ∧ w.cell? ⟨b, off + j * 5 + 4, none⟩ = some (.int .i64 ds[j].co) :=
  ⟨h.get encDv_len j hj 0 (by decide) _ rfl, by rw [Nat.add_assoc]; exact h.get encDv_len j hj 1 (by decide) _ rfl, by rw [Nat.add_assoc]; exact h.get encDv_len j hj 2 (by decide) _ rfl, by rw [Nat.add_assoc]; exact h.get encDv_len j hj 3 (by decide) _ rfl, by rw [Nat.add_assoc]; exact h.get encDv_len j hj 4 (by decide) _ rfl⟩

/-! ### kinds, numbers -/
set_option maxRecDepth 100000 in
theorem isKind_is (k : Int) (b : Bool) (hb : decide (1 ≤ k ∧ k ≤ 6) = b) (w : World) :
    Calls Tryd.prog 77 #[.int .i64 k] w fun e w' => e = .returned (.bool b) ∧ w = w' := by
  subst hb
  by_cases h : 1 ≤ k ∧ k ≤ 6
  · have e : (decide (1 ≤ k ∧ k ≤ 6)) = true := decide_eq_true h
    rw [e]
    clear e
    go_enter Tryd.func77, Tryd.ntmps77
    go_wp2
    all_goals (first | (exfalso; omega) | (go_ret; first | exact ⟨rfl, rfl⟩ | exact ⟨ret_bool (decide_eq_false (by omega)), rfl⟩ | exact ⟨ret_bool (decide_eq_true (by omega)), rfl⟩))
  · have e : (decide (1 ≤ k ∧ k ≤ 6)) = false := decide_eq_false h
    rw [e]
    clear e
    go_enter Tryd.func77, Tryd.ntmps77
    go_wp2
    all_goals (first | (exfalso; omega) | (go_ret; first | exact ⟨rfl, rfl⟩ | exact ⟨ret_bool (decide_eq_false (by omega)), rfl⟩ | exact ⟨ret_bool (decide_eq_true (by omega)), rfl⟩))
set_option maxRecDepth 100000 in
theorem isCompany_is (k : Int) (b : Bool) (hb : decide (0 ≤ k ∧ k ≤ 7) = b) (w : World) :
    Calls Tryd.prog 75 #[.int .i64 k] w fun e w' => e = .returned (.bool b) ∧ w = w' := by
  subst hb
  by_cases h : 0 ≤ k ∧ k ≤ 7
  · have e : (decide (0 ≤ k ∧ k ≤ 7)) = true := decide_eq_true h
    rw [e]
    clear e
    go_enter Tryd.func75, Tryd.ntmps75
    go_wp2
    all_goals (first | (exfalso; omega) | (go_ret; first | exact ⟨rfl, rfl⟩ | exact ⟨ret_bool (decide_eq_false (by omega)), rfl⟩ | exact ⟨ret_bool (decide_eq_true (by omega)), rfl⟩))
  · have e : (decide (0 ≤ k ∧ k ≤ 7)) = false := decide_eq_false h
    rw [e]
    clear e
    go_enter Tryd.func75, Tryd.ntmps75
    go_wp2
    all_goals (first | (exfalso; omega) | (go_ret; first | exact ⟨rfl, rfl⟩ | exact ⟨ret_bool (decide_eq_false (by omega)), rfl⟩ | exact ⟨ret_bool (decide_eq_true (by omega)), rfl⟩))
set_option maxRecDepth 100000 in
theorem joins_is (k : Int) (b : Bool) (hb : decide (1 ≤ k ∧ k ≤ 3) = b) (w : World) :
    Calls Tryd.prog 57 #[.int .i64 k] w fun e w' => e = .returned (.bool b) ∧ w = w' := by
  subst hb
  by_cases h : 1 ≤ k ∧ k ≤ 3
  · have e : (decide (1 ≤ k ∧ k ≤ 3)) = true := decide_eq_true h
    rw [e]
    clear e
    go_enter Tryd.func57, Tryd.ntmps57
    go_wp2
    all_goals (first | (exfalso; omega) | (go_ret; first | exact ⟨rfl, rfl⟩ | exact ⟨ret_bool (decide_eq_false (by omega)), rfl⟩ | exact ⟨ret_bool (decide_eq_true (by omega)), rfl⟩))
  · have e : (decide (1 ≤ k ∧ k ≤ 3)) = false := decide_eq_false h
    rw [e]
    clear e
    go_enter Tryd.func57, Tryd.ntmps57
    go_wp2
    all_goals (first | (exfalso; omega) | (go_ret; first | exact ⟨rfl, rfl⟩ | exact ⟨ret_bool (decide_eq_false (by omega)), rfl⟩ | exact ⟨ret_bool (decide_eq_true (by omega)), rfl⟩))
set_option maxRecDepth 100000 in
set_option maxHeartbeats 1000000 in
theorem nodeNamed_is (a : Option Addr) (n c : Nat) (s : ByteArray) (xs : List Nd) (r : Int) (w : World) (hn : xs.length = n) (h : RIn encNd 3 w a xs) (hl : n ≤ maxLen) (hr : fnd (nmsN xs) s = r) :
    Calls Tryd.prog 74 #[.slice a n c, .string s] w fun e w' => e = .returned (.int .i64 r) ∧ w = w' := by
  unfold maxLen at hl
  have HN := Lib.hid hn
  have HR := Lib.hid hr
  have hml : Hid ((nmsN xs).length = n) := by show _ = n; rw [← hn]; simp [nmsN]
  have hmg : Hid (∀ i (hi : i < xs.length), ∃ hi' : i < (nmsN xs).length, (nmsN xs)[i] = xs[i].nm) := fun i hi => ⟨by rw [hml.out, ← HN.out]; exact hi, by simp [nmsN]⟩
  by_cases hp : 0 < n
  · obtain ⟨g, o, rfl, hg, hc⟩ := h.some (by omega)
    have HC := Lib.hid hc
    clear hc hn hr h
    go_enter Tryd.func74, Tryd.ntmps74
    go_wp2
    go_loop [8] (fun i => ∃ j : Nat, j ≤ n ∧ i = .int .i64 j ∧ Hid (∀ i (hi : i < (nmsN xs).length), i < j → (nmsN xs)[i] ≠ s)) (fun i => n - (intOf i).toNat)
    case atStart => exact ⟨0, Nat.zero_le _, rfl, fun i hi h => by cases h⟩
    case round =>
      obtain ⟨j, hj, rfl, hno⟩ := hrel
      by_cases hjn : j < n
      · have hjx : j < xs.length := by rw [HN.out]; exact hjn
        obtain ⟨c0, -⟩ := cells_nd HC.out j hjx
        obtain ⟨x, hx⟩ : ∃ x, xs[j].nm = x := ⟨_, rfl⟩
        rw [hx] at c0
        have HX := Lib.hid hx
        clear hx
        by_cases e : x = s
        · have hr' : r = j := by
            obtain ⟨hi', he⟩ := hmg.out j hjx
            rw [← HR.out]; exact fnd_hit hi' (he.trans (HX.out.trans e)) hno.out
          have T : (x.toList == s.toList) = true := by rw [str_eq]; exact decide_eq_true e
          clear e HX hjx
          subst hr'
          go_wp2
          go_ret
          exact ⟨rfl, rfl⟩
        · have T : (x.toList == s.toList) = false := by rw [str_eq]; exact decide_eq_false e
          have hnext : Hid (∀ i (hi : i < (nmsN xs).length), i < j + 1 → (nmsN xs)[i] ≠ s) := fun i hi hij => by
            by_cases e1 : i = j
            · subst e1; obtain ⟨_, he⟩ := hmg.out i hjx; rw [he, HX.out]; exact e
            · exact hno.out i hi (by omega)
          clear e HX hjx hno
          go_wp2
          go_round
          case rel => exact ⟨j + 1, by omega, by go_num, hnext⟩
          case measure => simp [intOf]; omega
      · obtain rfl : j = n := by omega
        have hr' : r = -1 := by rw [← HR.out]; exact fnd_none (fun i hi => hno.out i hi (by rw [← hml.out]; exact hi))
        subst hr'
        go_wp2
        go_ret
        exact ⟨rfl, rfl⟩
  · obtain rfl : n = 0 := by omega
    have hr' : r = -1 := by rw [← HR.out]; exact fnd_none (fun i hi => by rw [hml.out] at hi; cases hi)
    subst hr'
    clear hn hr h
    go_enter Tryd.func74, Tryd.ntmps74
    go_wp2
    refine wp_loop_rounds 1 ?_; rw [rounds_succ]
    go_wp2
    go_ret
    exact ⟨rfl, rfl⟩
set_option maxRecDepth 100000 in
set_option maxHeartbeats 1000000 in
theorem deviceNamed_is (a : Option Addr) (n c : Nat) (s : ByteArray) (xs : List Dv) (r : Int) (w : World) (hn : xs.length = n) (h : RIn encDv 5 w a xs) (hl : n ≤ maxLen) (hr : fnd (nmsD xs) s = r) :
    Calls Tryd.prog 76 #[.slice a n c, .string s] w fun e w' => e = .returned (.int .i64 r) ∧ w = w' := by
  unfold maxLen at hl
  have HN := Lib.hid hn
  have HR := Lib.hid hr
  have hml : Hid ((nmsD xs).length = n) := by show _ = n; rw [← hn]; simp [nmsD]
  have hmg : Hid (∀ i (hi : i < xs.length), ∃ hi' : i < (nmsD xs).length, (nmsD xs)[i] = xs[i].nm) := fun i hi => ⟨by rw [hml.out, ← HN.out]; exact hi, by simp [nmsD]⟩
  by_cases hp : 0 < n
  · obtain ⟨g, o, rfl, hg, hc⟩ := h.some (by omega)
    have HC := Lib.hid hc
    clear hc hn hr h
    go_enter Tryd.func76, Tryd.ntmps76
    go_wp2
    go_loop [8] (fun i => ∃ j : Nat, j ≤ n ∧ i = .int .i64 j ∧ Hid (∀ i (hi : i < (nmsD xs).length), i < j → (nmsD xs)[i] ≠ s)) (fun i => n - (intOf i).toNat)
    case atStart => exact ⟨0, Nat.zero_le _, rfl, fun i hi h => by cases h⟩
    case round =>
      obtain ⟨j, hj, rfl, hno⟩ := hrel
      by_cases hjn : j < n
      · have hjx : j < xs.length := by rw [HN.out]; exact hjn
        obtain ⟨c0, -⟩ := cells_dv HC.out j hjx
        obtain ⟨x, hx⟩ : ∃ x, xs[j].nm = x := ⟨_, rfl⟩
        rw [hx] at c0
        have HX := Lib.hid hx
        clear hx
        by_cases e : x = s
        · have hr' : r = j := by
            obtain ⟨hi', he⟩ := hmg.out j hjx
            rw [← HR.out]; exact fnd_hit hi' (he.trans (HX.out.trans e)) hno.out
          have T : (x.toList == s.toList) = true := by rw [str_eq]; exact decide_eq_true e
          clear e HX hjx
          subst hr'
          go_wp2
          go_ret
          exact ⟨rfl, rfl⟩
        · have T : (x.toList == s.toList) = false := by rw [str_eq]; exact decide_eq_false e
          have hnext : Hid (∀ i (hi : i < (nmsD xs).length), i < j + 1 → (nmsD xs)[i] ≠ s) := fun i hi hij => by
            by_cases e1 : i = j
            · subst e1; obtain ⟨_, he⟩ := hmg.out i hjx; rw [he, HX.out]; exact e
            · exact hno.out i hi (by omega)
          clear e HX hjx hno
          go_wp2
          go_round
          case rel => exact ⟨j + 1, by omega, by go_num, hnext⟩
          case measure => simp [intOf]; omega
      · obtain rfl : j = n := by omega
        have hr' : r = -1 := by rw [← HR.out]; exact fnd_none (fun i hi => hno.out i hi (by rw [← hml.out]; exact hi))
        subst hr'
        go_wp2
        go_ret
        exact ⟨rfl, rfl⟩
  · obtain rfl : n = 0 := by omega
    have hr' : r = -1 := by rw [← HR.out]; exact fnd_none (fun i hi => by rw [hml.out] at hi; cases hi)
    subst hr'
    clear hn hr h
    go_enter Tryd.func76, Tryd.ntmps76
    go_wp2
    refine wp_loop_rounds 1 ?_; rw [rounds_succ]
    go_wp2
    go_ret
    exact ⟨rfl, rfl⟩
end Go.Proofs.YtoeojhabhnoojaaDoor.net
