/- The walks of layer 6: the unknown devices, how many states agree, slices.Clone at ints. Conditions: the table 'flags' holds what its text lays; at most 64 elements. -/
import Derived.Test.YtoeojhabhnoojaaDoorMkA
import Derived.Maps.AppendAt
import Derived.OwnWalk
import Derived.Shelf.RegionOpenPlain
import Derived.Laws.Externs
import Derived.Lib.SliceRun
namespace Go.Proofs.YtoeojhabhnoojaaDoor.msk
open Go.RowKit lex aggs kit net

def ints (l : List Nat) : List Int := l.map fun (i : Nat) => (i : Int)
theorem ints_len (l : List Nat) : (ints l).length = l.length := by simp [ints]
theorem ints_snoc (l : List Nat) (n : Nat) : ints (l ++ [n]) = ints l ++ [(n : Int)] := by simp [ints]
theorem ints_get {l : List Nat} {q i : Nat} (h : l[q]? = some i) : at0 (ints l) q = i := by simp [at0, ints, h]
theorem cell_newI (w : World) (g : Nat) (hg : g = w.heap.size) (T : Nat) (n : Int) : ∀ j u, (encI n)[j]? = some u → (w.alloc (.cells #[.int .i64 n] T)).cell? ((⟨g, 0, none⟩ : Addr).add j) = some u := by
  subst hg; exact cell_one (enc := encI) (_k := 1) w _ T n rfl
/-- what makes a slice of ints anew leaves -/
def NewI (w : World) (xs : List Int) (e : Ending) (w' : World) : Prop := ∃ v, e = .returned v ∧ OwnI w' w.heap.size v xs ∧ Below w.heap.size w w'
set_option maxRecDepth 100000 in
set_option maxHeartbeats 1000000 in
theorem unknown_is (a : Option Addr) (N c : Nat) (xs : List Int) (w : World) (h : LIn w a N c xs) (h64 : N ≤ 64) :
    Calls Tryd.prog 50 #[.slice a N c] w (NewI w (ints (unkL xs))) := by
  have hn := Lib.hid h.len
  have n2 := h.cap
  have n3 := h.max
  unfold maxLen at n3
  obtain ⟨i0, hi, hz0, hz1, hz2⟩ := info_parts infoI
  have HL := Lib.hid (fun wr (b : Below w.heap.size w wr) => h.below b)
  clear h
  go_enter Tryd.func50, Tryd.ntmps50
  go_wp2
  go_loopw [3, 8] (fun p i wr => ∃ k : Nat, k ≤ N ∧ i = .int .i64 k ∧ Hid (OwnI wr w.heap.size p (ints (unk (at0 xs) k))) ∧ Hid (Below w.heap.size w wr)) (fun _ i _ => N - (intOf i).toNat)
  case atStart => exact ⟨0, Nat.zero_le _, rfl, AggsAt.nil _ _ _ _ _, Below.refl _ _⟩
  case round =>
    obtain ⟨k, hk, rfl, own, bel⟩ := hrel
    by_cases hlt : k < N
    · have hkx : k < xs.length := by rw [hn.out]; exact hlt
      obtain ⟨g, o, rfl, hg, hc⟩ := (HL.out _ bel.out).rin.some (by omega)
      have c0 := cells_i hc k hkx
      obtain ⟨x, hx⟩ : ∃ x, at0 xs k = x := ⟨_, rfl⟩
      rw [hx] at c0
      have HX := Lib.hid hx
      have hul := unk_le (at0 xs) k
      clear hx hc hg hkx
      by_cases h3 : x = 3
      · subst h3
        have own2 := Lib.hid (AggsAt.alloc own.out (.cells #[.int .i64 (k : Int)] 3))
        have bel2 := Lib.hid (bel.out.trans ((below_box wr (.cells #[.int .i64 (k : Int)] 3)).mono bel.out.size))
        clear own bel
        go_wp2_with (at_builtin; go_must (refine wpList_append_own _ rfl (.tmp 15) (.tmp 17) 22 rfl w.heap.size 3 i0 _ 1 8 Tryd.underlying22 hi hz0 hz1 hz2 rfl (by decide) u3 (ints (unk (at0 xs) k)).length (flat encI (ints (unk (at0 xs) k))) rfl own2.out _ 1 1 (encI (k : Int)) rfl rfl ?qc1 ?qc2 ?qc3 ?qc4 ?qc5 ?_))
        case qc1 => exact cell_newI _ _ rfl _ _
        case qc2 => exact encI_one _
        case qc3 => rw [ints_len]; unfold maxLen; omega
        case qc4 => rw [ints_len]; omega
        case qc5 => exact bel2.out.size
        intro v' w5 hown' hgrow hnil'
        have NU : Hid (OwnI w5 w.heap.size v' (ints (unk (at0 xs) (k + 1)))) := by
          show OwnI _ _ _ _
          rw [unk, if_pos HX.out, ints_snoc]; exact AggsAt.push hown'
        have B5 := Lib.hid (bel2.out.grown hgrow bel2.out.size (fun q hq => (World.ownsRow.lt own2.out q hq).1))
        clear hown' hgrow hnil' own2 bel2
        go_wp2
        go_roundw
        case rel => exact ⟨k + 1, by omega, by go_num, NU, B5⟩
        case measure => simp [intOf]; omega
      · have T1 : (x == 3) = false := beq_eq_false_iff_ne.2 h3
        have NU : Hid (OwnI wr w.heap.size u3 (ints (unk (at0 xs) (k + 1)))) := by
          show OwnI _ _ _ _
          rw [unk, if_neg (by rw [HX.out]; exact h3)]; exact own.out
        clear h3 own
        go_wp2
        go_roundw
        case rel => exact ⟨k + 1, by omega, by go_num, NU, bel⟩
        case measure => simp [intOf]; omega
    · obtain rfl : k = N := by omega
      go_wp2
      go_ret
      exact ⟨_, rfl, by rw [unkL, hn.out]; exact own.out, bel.out⟩
def countE (xs : List Int) : Int := if xs.all mB = true then if 8 < (unkL xs).length then 1 else 0 else 10
def countV (xs : List Int) : Int := if countE xs = 0 then ((2 ^ (unkL xs).length : Nat) : Int) else 0
theorem ret_two {a b x y : Int} (h : a = b) (g : x = y) : Ending.returned (.tuple #[.int .i64 a, .int .i64 x]) = .returned (.tuple #[.int .i64 b, .int .i64 y]) := by rw [h, g]
theorem count_no {xs : List Int} (h : xs.all mB = false) : countV xs = 0 ∧ countE xs = 10 := by
  have e : countE xs = 10 := by unfold countE; rw [h]; rfl
  exact ⟨by unfold countV; rw [e]; rfl, e⟩
theorem count_many {xs : List Int} (h : xs.all mB = true) (k : 8 < (unkL xs).length) : countV xs = 0 ∧ countE xs = 1 := by
  have e : countE xs = 1 := by unfold countE; rw [if_pos h, if_pos k]
  exact ⟨by unfold countV; rw [e]; rfl, e⟩
theorem count_yes {xs : List Int} (h : xs.all mB = true) (k : (unkL xs).length ≤ 8) : countV xs = ((2 ^ (unkL xs).length : Nat) : Int) ∧ countE xs = 0 := by
  have e : countE xs = 0 := by unfold countE; rw [if_pos h, if_neg (by omega)]
  exact ⟨by unfold countV; rw [if_pos e], e⟩
set_option maxRecDepth 100000 in
set_option maxHeartbeats 1000000 in
theorem count_is (a : Option Addr) (N c : Nat) (xs : List Int) (w : World) (H : Flg w) (h : LIn w a N c xs) (h64 : N ≤ 64) :
    Calls Tryd.prog 49 #[.slice a N c] w fun e w' => e = .returned (.tuple #[.int .i64 (countV xs), .int .i64 (countE xs)]) ∧ Below w.heap.size w w' := by
  have HH := Lib.hid H
  have HL := Lib.hid h
  clear H h
  obtain ⟨b, hb⟩ : ∃ b, xs.all mB = b := ⟨_, rfl⟩
  have HB := Lib.hid hb
  clear hb
  cases b
  · obtain ⟨e1, e2⟩ := count_no HB.out
    rw [e1, e2]
    clear e1 e2
    go_enter Tryd.func49, Tryd.ntmps49
    go_wp2_with (go_at_call 63; refine (allHave_is 1 _ _ _ _ false _ HH.out (.inl rfl) HL.out HB.out).mono ?_; rintro e w' ⟨rfl, rfl⟩)
    go_ret2
    exact ⟨rfl, Below.refl _ _⟩
  · obtain ⟨V, hV⟩ : ∃ v, countV xs = v := ⟨_, rfl⟩
    obtain ⟨E, hE⟩ : ∃ v, countE xs = v := ⟨_, rfl⟩
    have HV := Lib.hid hV
    have HE := Lib.hid hE
    rw [hV, hE]
    clear hV hE
    go_enter Tryd.func49, Tryd.ntmps49
    go_wp2_with (go_at_call 63; refine (allHave_is 1 _ _ _ _ true _ HH.out (.inl rfl) HL.out HB.out).mono ?_; rintro e w' ⟨rfl, rfl⟩)
    refine (unknown_is _ _ _ _ _ HL.out h64).mono ?_
    rintro e w1 ⟨v, rfl, hv, bel⟩
    obtain ⟨a1, c1, rfl, -, -⟩ := hv.lin
    have hul := unk_le (at0 xs) xs.length
    rw [HL.out.len] at hul
    have BB := Lib.hid bel
    obtain ⟨u, hu⟩ : ∃ u, (unkL xs).length = u := ⟨_, rfl⟩
    rw [ints_len, hu]
    have HU := Lib.hid hu
    have hu64 : u ≤ 64 := by rw [← hu, unkL, HL.out.len]; omega
    clear hv bel hu hul
    by_cases h8 : 8 < u
    · have hc := Lib.hid (count_many HB.out (by rw [HU.out]; exact h8))
      go_wp2
      go_ret2
      exact ⟨ret_two (by rw [← HV.out, hc.out.1]) (by rw [← HE.out, hc.out.2]), BB.out⟩
    · have hc := Lib.hid (count_yes HB.out (by rw [HU.out]; omega))
      rw [HU.out] at hc
      rcases (show u = 0 ∨ u = 1 ∨ u = 2 ∨ u = 3 ∨ u = 4 ∨ u = 5 ∨ u = 6 ∨ u = 7 ∨ u = 8 by omega) with rfl | rfl | rfl | rfl | rfl | rfl | rfl | rfl | rfl
      all_goals (
        clear h8 hu64
        go_wp2
        go_ret2
        exact ⟨ret_two (by rw [← HV.out, hc.out.1]; decide +kernel) (by rw [← HE.out, hc.out.2]), BB.out⟩)
end Go.Proofs.YtoeojhabhnoojaaDoor.msk
