/- The walk of the statements' own 'same': two slices of strings are equal. It only reads. -/
import Derived.Test.YtoeadafgokdacaaDoorStrs
import Derived.Deep.QuietTactic
import Derived.BigQuiet
import Derived.WalkSmall
namespace Go.Proofs.YtoeadafgokdacaaDoor.strs
open Go.RowKit

set_option maxRecDepth 100000 in
set_option maxHeartbeats 400000 in
theorem same_apart (a b : Option Addr) (n m c d : Nat) (w : World) (hne : n ≠ m) (hn : n ≤ maxLen) (hm : m ≤ maxLen) :
    Calls Tryd.prog 15 #[.slice a n c, .slice b m d] w fun e w' => e = .returned (.bool false) ∧ Below w.heap.size w w' := by
  unfold maxLen at hn hm
  have t : ((n : Int) != (m : Int)) = true := by rw [bne_iff_ne]; omega
  go_enter Tryd.func15, Tryd.ntmps15
  go_wp2
  go_ret
  exact ⟨rfl, Below.refl _ _⟩
set_option maxRecDepth 100000 in
set_option maxHeartbeats 400000 in
theorem same_none (a b : Option Addr) (c d : Nat) (w : World) :
    Calls Tryd.prog 15 #[.slice a 0 c, .slice b 0 d] w fun e w' => e = .returned (.bool true) ∧ Below w.heap.size w w' := by
  go_enter Tryd.func15, Tryd.ntmps15
  go_wp2
  refine wp_loop_rounds 1 ?_; rw [rounds_succ]
  go_wp2
  go_ret
  exact ⟨rfl, Below.refl _ _⟩
set_option maxRecDepth 100000 in
set_option maxHeartbeats 1000000 in
theorem same_row (g1 g2 c d : Nat) (xs ys : List (List UInt8)) (w : World) (hl : xs.length = ys.length) (hm : xs.length ≤ maxLen)
    (h1 : ∀ j (hj : j < xs.length), w.cell? ⟨g1, j, none⟩ = some (.string (bs xs[j]))) (h2 : ∀ j (hj : j < ys.length), w.cell? ⟨g2, j, none⟩ = some (.string (bs ys[j]))) :
    Calls Tryd.prog 15 #[.slice (some ⟨g1, 0, none⟩) xs.length c, .slice (some ⟨g2, 0, none⟩) xs.length d] w fun e w' => e = .returned (.bool (decide (xs = ys))) ∧ Below w.heap.size w w' := by
  obtain ⟨n, hn⟩ : ∃ n, xs.length = n := ⟨_, rfl⟩
  rw [hn] at hm ⊢
  unfold maxLen at hm
  have HL := Lib.hid hl
  have HN := Lib.hid hn
  have H1 := Lib.hid h1
  have H2 := Lib.hid h2
  clear hl hn h1 h2
  go_enter Tryd.func15, Tryd.ntmps15
  go_wp2
  go_loopw [13] (fun i wr => ∃ (k q : Nat), k ≤ n ∧ i = .int .i64 k ∧ wr = w.drewN q ∧ Hid (xs.take k = ys.take k)) (fun i _ => n - (intOf i).toNat)
  case atStart => exact ⟨0, 0, Nat.zero_le _, rfl, rfl, rfl⟩
  case round =>
    obtain ⟨k, q, hk, rfl, rfl, heq⟩ := hrel
    by_cases hlt : k < n
    · have hx : k < xs.length := by rw [HN.out]; exact hlt
      have hy : k < ys.length := by rw [← HL.out]; exact hx
      have c1 := H1.out k hx
      have c2 := H2.out k hy
      obtain ⟨x, ex⟩ : ∃ x, bs xs[k] = x := ⟨_, rfl⟩
      obtain ⟨y, ey⟩ : ∃ y, bs ys[k] = y := ⟨_, rfl⟩
      rw [ex] at c1
      rw [ey] at c2
      have EX := Lib.hid ex
      have EY := Lib.hid ey
      clear ex ey
      by_cases e : xs[k] = ys[k]
      · have hxy : x = y := by rw [← EX.out, ← EY.out, e]
        have T : (!x.toList == y.toList) = false := by rw [hxy]; simp
        have hnext : Hid (xs.take (k + 1) = ys.take (k + 1)) := by
          show xs.take (k + 1) = ys.take (k + 1)
          rw [List.take_succ_eq_append_getElem hx, List.take_succ_eq_append_getElem hy, heq.out, e]
        clear hxy e
        go_wp2
        go_quiet (fail)
        go_wp2
        go_roundw
        case rel => exact ⟨k + 1, _, by omega, by go_num, rfl, hnext⟩
        case measure => simp [intOf]; omega
      · have hxy : x ≠ y := by rw [← EX.out, ← EY.out]; exact fun h => e (bs_inj h)
        have T : (!x.toList == y.toList) = true := by
          rw [Bool.not_eq_true', beq_eq_false_iff_ne, Lib.toList_data, Lib.toList_data]
          intro h; apply hxy; rw [← bs_of x, h, bs_of]
        have hno : Hid (decide (xs = ys) = false) := decide_eq_false (fun h => e (by subst h; rfl))
        clear hxy e
        go_wp2
        go_quiet (fail)
        go_wp2
        go_ret
        exact ⟨congrArg (fun b => Ending.returned (.bool b)) hno.out.symm, below_drewN (below_drewN (Below.refl _ _) _) _⟩
    · have hk' : k = n := by omega
      have hyes : Hid (decide (xs = ys) = true) := by
        have h := heq.out
        rw [hk', List.take_of_length_le (by rw [HN.out]; exact Nat.le_refl _), List.take_of_length_le (by rw [← HL.out, HN.out]; exact Nat.le_refl _)] at h
        exact decide_eq_true h
      clear hk'
      go_wp2
      go_ret
      exact ⟨congrArg (fun b => Ending.returned (.bool b)) hyes.out.symm, below_drewN (Below.refl _ _) _⟩

theorem same_any {b1 b2 : Nat} {v1 v2 : Value} {xs ys : List (List UInt8)} {w : World} (h1 : StrsAt w b1 v1 xs) (h2 : StrsAt w b2 v2 ys) :
    Calls Tryd.prog 15 #[v1, v2] w fun e w' => e = .returned (.bool (decide (xs = ys))) ∧ Below w.heap.size w w' := by
  by_cases hl : xs.length = ys.length
  · rcases h1.shape with ⟨rfl, rfl⟩ | ⟨g1, c1, rfl, _, _, hn1, hm1, hc1⟩
    · have : ys = [] := List.eq_nil_of_length_eq_zero hl.symm
      subst this
      obtain ⟨a, c, rfl, _⟩ := h2.length
      exact same_none _ _ _ _ _
    · rcases h2.shape with ⟨rfl, rfl⟩ | ⟨g2, c2, rfl, _, _, hn2, hm2, hc2⟩
      · have : xs = [] := List.eq_nil_of_length_eq_zero hl
        subst this
        exact same_none _ _ _ _ _
      · rw [← hl]
        exact same_row g1 g2 c1 c2 xs ys w hl (by omega) hc1 hc2
  · obtain ⟨a, c, rfl, hn⟩ := h1.length
    obtain ⟨b, d, rfl, hm⟩ := h2.length
    rw [decide_eq_false (fun h => hl (by rw [h]))]
    exact same_apart _ _ _ _ _ _ _ hl hn hm
end Go.Proofs.YtoeadafgokdacaaDoor.strs
