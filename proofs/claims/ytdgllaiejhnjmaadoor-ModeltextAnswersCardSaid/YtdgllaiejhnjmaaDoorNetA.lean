/- The walks of layer 3 on one network: kinds, names, Check. Condition: the table 'classes' holds what its text lays. -/
import Derived.Test.YtdgllaiejhnjmaaDoorNetM
import Derived.Test.YtdgllaiejhnjmaaDoorNamP
import Derived.Test.YtdgllaiejhnjmaaDoorAggs
import Derived.Test.YtdgllaiejhnjmaaDoorKit
import Derived.Deep.QuietTactic
import Derived.BigQuiet
namespace Go.Proofs.YtdgllaiejhnjmaaDoor.net
open Go.RowKit lex aggs kit

def encNd (x : Nd) : List Value := [.string x.nm, .int .i64 x.cu, .int .i64 x.co]
def encDv (d : Dv) : List Value := [.string d.nm, .int .i64 d.ki, .int .i64 d.a, .int .i64 d.b, .int .i64 d.co]
theorem encNd_len (x : Nd) : (encNd x).length = 3 := rfl
theorem encDv_len (x : Dv) : (encDv x).length = 5 := rfl
theorem encNd_one (x : Nd) : ∀ v ∈ encNd x, v.oneCell' = true := by
  intro v hv; simp [encNd] at hv; rcases hv with rfl | rfl | rfl <;> rfl
theorem encDv_one (x : Dv) : ∀ v ∈ encDv x, v.oneCell' = true := by
  intro v hv; simp [encDv] at hv; rcases hv with rfl | rfl | rfl | rfl | rfl <;> rfl
theorem cells_nd {w : World} {b off : Nat} {ns : List Nd} (h : CellsAt encNd 3 w b off ns) (j : Nat) (hj : j < ns.length) :
    w.cell? ⟨b, off + j * 3, none⟩ = some (.string ns[j].nm) ∧ w.cell? ⟨b, off + j * 3 + 1, none⟩ = some (.int .i64 ns[j].cu) ∧ w.cell? ⟨b, off + j * 3 + 2, none⟩ = some (.int .i64 ns[j].co) :=
  ⟨h.get encNd_len j hj 0 (by decide) _ rfl, by rw [Nat.add_assoc]; exact h.get encNd_len j hj 1 (by decide) _ rfl, by rw [Nat.add_assoc]; exact h.get encNd_len j hj 2 (by decide) _ rfl⟩
theorem cells_dv {w : World} {b off : Nat} {ds : List Dv} (h : CellsAt encDv 5 w b off ds) (j : Nat) (hj : j < ds.length) :
    w.cell? ⟨b, off + j * 5, none⟩ = some (.string ds[j].nm) ∧ w.cell? ⟨b, off + j * 5 + 1, none⟩ = some (.int .i64 ds[j].ki) ∧ w.cell? ⟨b, off + j * 5 + 2, none⟩ = some (.int .i64 ds[j].a) ∧ w.cell? ⟨b, off + j * 5 + 3, none⟩ = some (.int .i64 ds[j].b) ∧ w.cell? ⟨b, off + j * 5 + 4, none⟩ = some (.int .i64 ds[j].co) :=
  ⟨h.get encDv_len j hj 0 (by decide) _ rfl, by rw [Nat.add_assoc]; exact h.get encDv_len j hj 1 (by decide) _ rfl, by rw [Nat.add_assoc]; exact h.get encDv_len j hj 2 (by decide) _ rfl, by rw [Nat.add_assoc]; exact h.get encDv_len j hj 3 (by decide) _ rfl, by rw [Nat.add_assoc]; exact h.get encDv_len j hj 4 (by decide) _ rfl⟩

/-- a slice of structs that can be read: nil, or a row of cells -/
def RIn {α : Type} (enc : α → List Value) (k : Nat) (w : World) (a : Option Addr) (xs : List α) : Prop := (a = none ∧ xs = []) ∨ ∃ b off, a = some ⟨b, off, none⟩ ∧ b < w.heap.size ∧ CellsAt enc k w b off xs
theorem RIn.below {α : Type} {enc : α → List Value} {k : Nat} {w w' : World} {a : Option Addr} {xs : List α} (h : RIn enc k w a xs) (hb : Below w.heap.size w w') : RIn enc k w' a xs := by
  rcases h with h | ⟨b, off, h1, h2, h3⟩
  · exact .inl h
  · exact .inr ⟨b, off, h1, Nat.lt_of_lt_of_le h2 hb.size, h3.below hb⟩
theorem RIn.some {α : Type} {enc : α → List Value} {k : Nat} {w : World} {a : Option Addr} {xs : List α} (h : RIn enc k w a xs) (hp : 0 < xs.length) : ∃ b off, a = some ⟨b, off, none⟩ ∧ b < w.heap.size ∧ CellsAt enc k w b off xs := by
  rcases h with ⟨_, h⟩ | h
  · rw [h] at hp; cases hp
  · exact h
theorem RIn.pre {α : Type} {enc : α → List Value} {k : Nat} {w : World} {a : Option Addr} {xs ys : List α} (h : RIn enc k w a (xs ++ ys)) : RIn enc k w a xs := by
  rcases h with ⟨h, e⟩ | ⟨b, off, h1, h2, h3⟩
  · exact .inl ⟨h, (List.append_eq_nil_iff.1 e).1⟩
  · refine .inr ⟨b, off, h1, h2, fun i u hu => h3 i u ?_⟩
    rw [flat_append, List.getElem?_append_left (List.getElem?_eq_some_iff.1 hu).1]; exact hu
theorem RIn.take {α : Type} {enc : α → List Value} {k : Nat} {w : World} {a : Option Addr} {xs : List α} (h : RIn enc k w a xs) (i : Nat) : RIn enc k w a (xs.take i) := by
  rw [← List.take_append_drop i xs] at h; exact h.pre
theorem AggsAt.rin {α : Type} {enc : α → List Value} {k T : Nat} {w : World} {base : Nat} {v : Value} {xs : List α} (h : AggsAt T k enc w base v xs) (hk : ∀ x, (enc x).length = k) : ∃ a cap, v = .slice a xs.length cap ∧ RIn enc k w a xs := by
  rcases h.shape hk with ⟨rfl, rfl⟩ | ⟨g, cap, rfl, _, hg, _, _, hc, _⟩
  · exact ⟨none, 0, rfl, .inl ⟨rfl, rfl⟩⟩
  · exact ⟨_, _, rfl, .inr ⟨g, 0, rfl, hg, hc⟩⟩
theorem str_eq {x y : ByteArray} : (x.toList == y.toList) = decide (x = y) := by
  rw [Lib.toList_data, Lib.toList_data]
  by_cases h : x = y
  · subst h; simp
  · have : x.data.toList ≠ y.data.toList := fun e => h (by cases x; cases y; simp at e; simp [e])
    rw [decide_eq_false h, beq_eq_false_iff_ne]; exact this

/-! ### kinds, numbers -/
set_option maxRecDepth 100000 in
theorem isKind_is (k : Int) (b : Bool) (hb : decide (1 ≤ k ∧ k ≤ 6) = b) (w : World) :
    Calls Tryd.prog 56 #[.int .i64 k] w fun e w' => e = .returned (.bool b) ∧ w = w' := by
  subst hb
  by_cases h : 1 ≤ k ∧ k ≤ 6
  · have e : (decide (1 ≤ k ∧ k ≤ 6)) = true := decide_eq_true h
    rw [e]
    clear e
    go_enter Tryd.func56, Tryd.ntmps56
    go_wp2
    all_goals (first | (exfalso; omega) | (go_ret; first | exact ⟨rfl, rfl⟩ | exact ⟨ret_bool (decide_eq_false (by omega)), rfl⟩ | exact ⟨ret_bool (decide_eq_true (by omega)), rfl⟩))
  · have e : (decide (1 ≤ k ∧ k ≤ 6)) = false := decide_eq_false h
    rw [e]
    clear e
    go_enter Tryd.func56, Tryd.ntmps56
    go_wp2
    all_goals (first | (exfalso; omega) | (go_ret; first | exact ⟨rfl, rfl⟩ | exact ⟨ret_bool (decide_eq_false (by omega)), rfl⟩ | exact ⟨ret_bool (decide_eq_true (by omega)), rfl⟩))
set_option maxRecDepth 100000 in
theorem isCompany_is (k : Int) (b : Bool) (hb : decide (0 ≤ k ∧ k ≤ 7) = b) (w : World) :
    Calls Tryd.prog 54 #[.int .i64 k] w fun e w' => e = .returned (.bool b) ∧ w = w' := by
  subst hb
  by_cases h : 0 ≤ k ∧ k ≤ 7
  · have e : (decide (0 ≤ k ∧ k ≤ 7)) = true := decide_eq_true h
    rw [e]
    clear e
    go_enter Tryd.func54, Tryd.ntmps54
    go_wp2
    all_goals (first | (exfalso; omega) | (go_ret; first | exact ⟨rfl, rfl⟩ | exact ⟨ret_bool (decide_eq_false (by omega)), rfl⟩ | exact ⟨ret_bool (decide_eq_true (by omega)), rfl⟩))
  · have e : (decide (0 ≤ k ∧ k ≤ 7)) = false := decide_eq_false h
    rw [e]
    clear e
    go_enter Tryd.func54, Tryd.ntmps54
    go_wp2
    all_goals (first | (exfalso; omega) | (go_ret; first | exact ⟨rfl, rfl⟩ | exact ⟨ret_bool (decide_eq_false (by omega)), rfl⟩ | exact ⟨ret_bool (decide_eq_true (by omega)), rfl⟩))
set_option maxRecDepth 100000 in
theorem joins_is (k : Int) (b : Bool) (hb : decide (1 ≤ k ∧ k ≤ 3) = b) (w : World) :
    Calls Tryd.prog 43 #[.int .i64 k] w fun e w' => e = .returned (.bool b) ∧ w = w' := by
  subst hb
  by_cases h : 1 ≤ k ∧ k ≤ 3
  · have e : (decide (1 ≤ k ∧ k ≤ 3)) = true := decide_eq_true h
    rw [e]
    clear e
    go_enter Tryd.func43, Tryd.ntmps43
    go_wp2
    all_goals (first | (exfalso; omega) | (go_ret; first | exact ⟨rfl, rfl⟩ | exact ⟨ret_bool (decide_eq_false (by omega)), rfl⟩ | exact ⟨ret_bool (decide_eq_true (by omega)), rfl⟩))
  · have e : (decide (1 ≤ k ∧ k ≤ 3)) = false := decide_eq_false h
    rw [e]
    clear e
    go_enter Tryd.func43, Tryd.ntmps43
    go_wp2
    all_goals (first | (exfalso; omega) | (go_ret; first | exact ⟨rfl, rfl⟩ | exact ⟨ret_bool (decide_eq_false (by omega)), rfl⟩ | exact ⟨ret_bool (decide_eq_true (by omega)), rfl⟩))
set_option maxRecDepth 100000 in
set_option maxHeartbeats 1000000 in
theorem nodeNamed_is (a : Option Addr) (n c : Nat) (s : ByteArray) (xs : List Nd) (r : Int) (w : World) (hn : xs.length = n) (h : RIn encNd 3 w a xs) (hl : n ≤ maxLen) (hr : fnd (nmsN xs) s = r) :
    Calls Tryd.prog 53 #[.slice a n c, .string s] w fun e w' => e = .returned (.int .i64 r) ∧ w = w' := by
  unfold maxLen at hl
  have HN := Lib.hid hn
  have HR := Lib.hid hr
  have hml : Hid ((nmsN xs).length = n) := by show _ = n; rw [← hn]; simp [nmsN]
  have hmg : Hid (∀ i (hi : i < xs.length), ∃ hi' : i < (nmsN xs).length, (nmsN xs)[i] = xs[i].nm) := fun i hi => ⟨by rw [hml.out, ← HN.out]; exact hi, by simp [nmsN]⟩
  by_cases hp : 0 < n
  · obtain ⟨g, o, rfl, hg, hc⟩ := h.some (by omega)
    have HC := Lib.hid hc
    clear hc hn hr h
    go_enter Tryd.func53, Tryd.ntmps53
    go_wp2
    go_loop [8] (fun i => ∃ j : Nat, j ≤ n ∧ i = .int .i64 j ∧ Hid (∀ i (hi : i < (nmsN xs).length), i < j → (nmsN xs)[i] ≠ s)) (fun i => n - (intOf i).toNat)
    case atStart => exact ⟨0, Nat.zero_le _, rfl, fun i hi h => by cases h⟩
    case round =>
      obtain ⟨j, hj, rfl, hno⟩ := hrel
      by_cases hjn : j < n
      · have hjx : j < xs.length := by rw [HN.out]; exact hjn
        obtain ⟨c0, -⟩ := cells_nd HC.out j hjx
        obtain ⟨x, hx⟩ : ∃ x, xs[j].nm = x := ⟨_, rfl⟩
        rw [hx] at c0
        have HX := Lib.hid hx
        clear hx
        by_cases e : x = s
        · have hr' : r = j := by
            obtain ⟨hi', he⟩ := hmg.out j hjx
            rw [← HR.out]; exact fnd_hit hi' (he.trans (HX.out.trans e)) hno.out
          have T : (x.toList == s.toList) = true := by rw [str_eq]; exact decide_eq_true e
          clear e HX hjx
          subst hr'
          go_wp2
          go_ret
          exact ⟨rfl, rfl⟩
        · have T : (x.toList == s.toList) = false := by rw [str_eq]; exact decide_eq_false e
          have hnext : Hid (∀ i (hi : i < (nmsN xs).length), i < j + 1 → (nmsN xs)[i] ≠ s) := fun i hi hij => by
            by_cases e1 : i = j
            · subst e1; obtain ⟨_, he⟩ := hmg.out i hjx; rw [he, HX.out]; exact e
            · exact hno.out i hi (by omega)
          clear e HX hjx hno
          go_wp2
          go_round
          case rel => exact ⟨j + 1, by omega, by go_num, hnext⟩
          case measure => simp [intOf]; omega
      · obtain rfl : j = n := by omega
        have hr' : r = -1 := by rw [← HR.out]; exact fnd_none (fun i hi => hno.out i hi (by rw [← hml.out]; exact hi))
        subst hr'
        go_wp2
        go_ret
        exact ⟨rfl, rfl⟩
  · obtain rfl : n = 0 := by omega
    have hr' : r = -1 := by rw [← HR.out]; exact fnd_none (fun i hi => by rw [hml.out] at hi; cases hi)
    subst hr'
    clear hn hr h
    go_enter Tryd.func53, Tryd.ntmps53
    go_wp2
    refine wp_loop_rounds 1 ?_; rw [rounds_succ]
    go_wp2
    go_ret
    exact ⟨rfl, rfl⟩
set_option maxRecDepth 100000 in
set_option maxHeartbeats 1000000 in
theorem deviceNamed_is (a : Option Addr) (n c : Nat) (s : ByteArray) (xs : List Dv) (r : Int) (w : World) (hn : xs.length = n) (h : RIn encDv 5 w a xs) (hl : n ≤ maxLen) (hr : fnd (nmsD xs) s = r) :
    Calls Tryd.prog 55 #[.slice a n c, .string s] w fun e w' => e = .returned (.int .i64 r) ∧ w = w' := by
  unfold maxLen at hl
  have HN := Lib.hid hn
  have HR := Lib.hid hr
  have hml : Hid ((nmsD xs).length = n) := by show _ = n; rw [← hn]; simp [nmsD]
  have hmg : Hid (∀ i (hi : i < xs.length), ∃ hi' : i < (nmsD xs).length, (nmsD xs)[i] = xs[i].nm) := fun i hi => ⟨by rw [hml.out, ← HN.out]; exact hi, by simp [nmsD]⟩
  by_cases hp : 0 < n
  · obtain ⟨g, o, rfl, hg, hc⟩ := h.some (by omega)
    have HC := Lib.hid hc
    clear hc hn hr h
    go_enter Tryd.func55, Tryd.ntmps55
    go_wp2
    go_loop [8] (fun i => ∃ j : Nat, j ≤ n ∧ i = .int .i64 j ∧ Hid (∀ i (hi : i < (nmsD xs).length), i < j → (nmsD xs)[i] ≠ s)) (fun i => n - (intOf i).toNat)
    case atStart => exact ⟨0, Nat.zero_le _, rfl, fun i hi h => by cases h⟩
    case round =>
      obtain ⟨j, hj, rfl, hno⟩ := hrel
      by_cases hjn : j < n
      · have hjx : j < xs.length := by rw [HN.out]; exact hjn
        obtain ⟨c0, -⟩ := cells_dv HC.out j hjx
        obtain ⟨x, hx⟩ : ∃ x, xs[j].nm = x := ⟨_, rfl⟩
        rw [hx] at c0
        have HX := Lib.hid hx
        clear hx
        by_cases e : x = s
        · have hr' : r = j := by
            obtain ⟨hi', he⟩ := hmg.out j hjx
            rw [← HR.out]; exact fnd_hit hi' (he.trans (HX.out.trans e)) hno.out
          have T : (x.toList == s.toList) = true := by rw [str_eq]; exact decide_eq_true e
          clear e HX hjx
          subst hr'
          go_wp2
          go_ret
          exact ⟨rfl, rfl⟩
        · have T : (x.toList == s.toList) = false := by rw [str_eq]; exact decide_eq_false e
          have hnext : Hid (∀ i (hi : i < (nmsD xs).length), i < j + 1 → (nmsD xs)[i] ≠ s) := fun i hi hij => by
            by_cases e1 : i = j
            · subst e1; obtain ⟨_, he⟩ := hmg.out i hjx; rw [he, HX.out]; exact e
            · exact hno.out i hi (by omega)
          clear e HX hjx hno
          go_wp2
          go_round
          case rel => exact ⟨j + 1, by omega, by go_num, hnext⟩
          case measure => simp [intOf]; omega
      · obtain rfl : j = n := by omega
        have hr' : r = -1 := by rw [← HR.out]; exact fnd_none (fun i hi => hno.out i hi (by rw [← hml.out]; exact hi))
        subst hr'
        go_wp2
        go_ret
        exact ⟨rfl, rfl⟩
  · obtain rfl : n = 0 := by omega
    have hr' : r = -1 := by rw [← HR.out]; exact fnd_none (fun i hi => by rw [hml.out] at hi; cases hi)
    subst hr'
    clear hn hr h
    go_enter Tryd.func55, Tryd.ntmps55
    go_wp2
    refine wp_loop_rounds 1 ?_; rw [rounds_succ]
    go_wp2
    go_ret
    exact ⟨rfl, rfl⟩
end Go.Proofs.YtdgllaiejhnjmaaDoor.net
