/- The walk of the reference's Text: it gives the decimal digits. -/
import Derived.Test.YtdgllaiejhnjmaaDoorLexM
import Derived.Test.YtdgllaiejhnjmaaDoorStrs
namespace Go.Proofs.YtdgllaiejhnjmaaDoor.lex
open Go.RowKit strs kit

/-- the digits that are still to be put ahead -/
def ahead (u : Nat) : List UInt8 := if u = 0 then [] else Lib.decDigits u
theorem ahead_zero : ahead 0 = [] := rfl
theorem ahead_step {u : Nat} (h : 1 ≤ u) : ahead u = ahead (u / 10) ++ [UInt8.ofNat (48 + u % 10)] := by
  unfold ahead
  rw [if_neg (by omega), Lib.decDigits]
  by_cases h1 : u < 10
  · rw [dif_pos h1, if_pos (by omega), show u % 10 = u from by omega]; rfl
  · rw [dif_neg h1, if_neg (by omega)]
theorem ahead_all {u : Nat} (h : 1 ≤ u) : ahead u = Lib.decDigits u := by unfold ahead; rw [if_neg (by omega)]

theorem dig_bs (d : Nat) (x : List UInt8) : ({ data := #[48 + UInt8.ofNat d] } : ByteArray) ++ bs x = bs (UInt8.ofNat (48 + d) :: x) := by
  have e : (48 + UInt8.ofNat d : UInt8) = UInt8.ofNat (48 + d) := by simp
  rw [e, ← bs_of (({ data := #[UInt8.ofNat (48 + d)] } : ByteArray) ++ bs x), ByteArray.data_append]; simp [bs]
theorem sign_bs (x : List UInt8) : ({ data := #[45] } : ByteArray) ++ bs x = bs (45 :: x) := by
  rw [← bs_of (({ data := #[45] } : ByteArray) ++ bs x), ByteArray.data_append]; simp [bs]
theorem neg_tmod (u : Nat) : (-(u : Int)).tmod 10 = -((u : Int) % 10) := by rw [Int.neg_tmod, Int.tmod_eq_emod_of_nonneg (by omega)]
theorem neg_tdiv (u : Nat) : (-(u : Int)).tdiv 10 = -((u : Int) / 10) := by rw [Int.neg_tdiv, Int.tdiv_eq_ediv_of_nonneg (by omega)]

set_option maxRecDepth 100000 in
set_option maxHeartbeats 1000000 in
theorem rtext_any (n : Int) (w : World) (n0 : -9223372036854775808 ≤ n) (n1 : n ≤ 9223372036854775807) :
    Calls Tryd.prog 24 #[.int .i64 n] w fun e w' => e = .returned (.string (bs (Lib.itoa n))) ∧ Below w.heap.size w w' := by
  by_cases hz : n = 0
  · subst hz
    have e : Lib.itoa 0 = [48] := by show Lib.decDigits 0 = _; rw [Lib.decDigits_one (by decide)]; rfl
    rw [e]
    clear e n0 n1
    go_enter Tryd.func24, Tryd.ntmps24
    go_wp2
    go_ret
    exact ⟨rfl, Below.refl _ _⟩
  · have t0 : (n == 0) = false := by rw [beq_eq_false_iff_ne]; exact hz
    by_cases hp : 0 < n
    · obtain ⟨N, rfl⟩ := Int.eq_ofNat_of_zero_le (Int.le_of_lt hp)
      have hN : 1 ≤ N := by omega
      have hit : Hid (Lib.itoa (N : Int) = Lib.decDigits N) := by show (if (N : Int) < 0 then _ else Lib.decDigits (N : Int).toNat) = _; rw [if_neg (by omega)]; rfl
      have tn : decide ((N : Int) < 0) = false := decide_eq_false (by omega)
      clear hz hp
      go_enter Tryd.func24, Tryd.ntmps24
      go_wp2
      go_loopw [3, 4] (fun t m wr => ∃ (x : List UInt8) (u : Nat), t = .string (bs x) ∧ m = .int .i64 u ∧ u ≤ N ∧ Hid (ahead u ++ x = Lib.decDigits N) ∧ x.length ≤ 20 ∧ u < 10 ^ (20 - x.length) ∧ Below w.heap.size w wr) (fun _ m _ => (intOf m).toNat)
      case atStart => exact ⟨[], N, rfl, rfl, Nat.le_refl _, by rw [ahead_all hN]; exact List.append_nil _, by simp, by simp; omega, Below.refl _ _⟩
      case round =>
        obtain ⟨x, u, rfl, rfl, hu, hx, hxl, hpow, hbl⟩ := hrel
        have hbx := bs_size x
        by_cases hu0 : 1 ≤ u
        · have tm : ((u : Int) != 0) = true := by rw [bne_iff_ne]; omega
          have hxl2 : x.length ≤ 19 := by
            rcases Nat.lt_or_ge x.length 20 with h | h
            · omega
            · rw [show 20 - x.length = 0 from by omega] at hpow; simp at hpow; omega
          have hpow2 : u / 10 < 10 ^ (20 - (x.length + 1)) := by
            rw [show 20 - x.length = (20 - (x.length + 1)) + 1 from by omega, Nat.pow_succ] at hpow
            omega
          have hnext : Hid (ahead (u / 10) ++ (UInt8.ofNat (48 + u % 10) :: x) = Lib.decDigits N) := by
            have := hx.out
            rw [ahead_step hu0] at this
            show ahead (u / 10) ++ ([UInt8.ofNat (48 + u % 10)] ++ x) = _
            rw [← this, List.append_assoc]
          clear hpow hx
          have kc := fun (w : World) => kit.str1i w (48 + (u : Int) % 10) (by omega) (by omega)
          go_wp2
          go_roundw
          case rel => exact ⟨UInt8.ofNat (48 + u % 10) :: x, u / 10, congrArg _ (dig_bs _ _), by go_num, by omega, hnext, by simp; omega, by simpa using hpow2, hbl.alloc hbl.size _⟩
          case measure => simp [intOf]; omega
        · have hu1 : u = 0 := by omega
          subst hu1
          have hfin : Hid (x = Lib.itoa (N : Int)) := by have := hx.out; rw [ahead_zero, List.nil_append] at this; rw [hit.out]; exact this
          clear hx
          go_wp2
          go_ret
          exact ⟨by rw [← hfin.out]; rfl, hbl⟩
    · obtain ⟨N, hNn⟩ : ∃ N : Nat, n = -(N : Int) := ⟨n.natAbs, by omega⟩
      subst hNn
      have hN : 1 ≤ N := by omega
      have hit : Hid (Lib.itoa (-(N : Int)) = 45 :: Lib.decDigits N) := by
        show (if (-(N : Int)) < 0 then 45 :: Lib.decDigits (-(N : Int)).natAbs else _) = _
        rw [if_pos (by omega)]; simp
      have tn : decide (-(N : Int) < 0) = true := decide_eq_true (by omega)
      clear hz hp
      go_enter Tryd.func24, Tryd.ntmps24
      go_wp2
      go_loopw [3, 4, 5] (fun t m _ wr => ∃ (x : List UInt8) (u : Nat), t = .string (bs x) ∧ m = .int .i64 (-(u : Int)) ∧ u ≤ N ∧ Hid (ahead u ++ x = Lib.decDigits N) ∧ x.length ≤ 20 ∧ u < 10 ^ (20 - x.length) ∧ Below w.heap.size w wr) (fun _ m _ _ => (intOf m).natAbs)
      case atStart => exact ⟨[], N, rfl, rfl, Nat.le_refl _, by rw [ahead_all hN]; exact List.append_nil _, by simp, by simp; omega, Below.refl _ _⟩
      case round =>
        obtain ⟨x, u, rfl, rfl, hu, hx, hxl, hpow, hbl⟩ := hrel
        have hbx := bs_size x
        by_cases hu0 : 1 ≤ u
        · have tm : (-(u : Int) != 0) = true := by rw [bne_iff_ne]; omega
          have hxl2 : x.length ≤ 19 := by
            rcases Nat.lt_or_ge x.length 20 with h | h
            · omega
            · rw [show 20 - x.length = 0 from by omega] at hpow; simp at hpow; omega
          have hpow2 : u / 10 < 10 ^ (20 - (x.length + 1)) := by
            rw [show 20 - x.length = (20 - (x.length + 1)) + 1 from by omega, Nat.pow_succ] at hpow
            omega
          have hnext : Hid (ahead (u / 10) ++ (UInt8.ofNat (48 + u % 10) :: x) = Lib.decDigits N) := by
            have := hx.out
            rw [ahead_step hu0] at this
            show ahead (u / 10) ++ ([UInt8.ofNat (48 + u % 10)] ++ x) = _
            rw [← this, List.append_assoc]
          clear hpow hx
          have q2 := neg_tdiv u
          by_cases hd : u % 10 = 0
          · have kc := fun (w : World) => kit.str1i w 48 (by omega) (by omega)
            have q1 : (-(u : Int)).tmod 10 = 0 := by rw [neg_tmod]; omega
            have hnext0 : Hid (ahead (u / 10) ++ (48 :: x) = Lib.decDigits N) := by have := hnext.out; rwa [hd] at this
            clear hd hnext
            go_wp2
            go_roundw
            case rel => exact ⟨48 :: x, u / 10, congrArg _ (dig_bs 0 _), by go_num, by omega, hnext0, by simp; omega, by simpa using hpow2, hbl.alloc hbl.size _⟩
            case measure => simp [intOf]; omega
          · have kc := fun (w : World) => kit.str1i w (48 + (u : Int) % 10) (by omega) (by omega)
            have q1 := neg_tmod u
            go_wp2
            go_roundw
            case rel => exact ⟨UInt8.ofNat (48 + u % 10) :: x, u / 10, congrArg _ (dig_bs _ _), by go_num, by omega, hnext, by simp; omega, by simpa using hpow2, hbl.alloc hbl.size _⟩
            case measure => simp [intOf]; omega
        · have hu1 : u = 0 := by omega
          subst hu1
          have hfin : Hid (bs (45 :: x) = bs (Lib.itoa (-(N : Int)))) := by have := hx.out; rw [ahead_zero, List.nil_append] at this; rw [hit.out, this]; rfl
          clear hx
          go_wp2
          go_ret
          exact ⟨by rw [← hfin.out, ← sign_bs]; rfl, hbl⟩

end Go.Proofs.YtdgllaiejhnjmaaDoor.lex
