/- The walks of the reference of layer 1, fourth part: Text, and Join of words that came in; and the program's own Join of them. -/
import Derived.Test.YtoeadafgokdacaaDoorLexR3
import Derived.Test.YtoeadafgokdacaaDoorLexB
namespace Go.Proofs.YtoeadafgokdacaaDoor.lex
open Go.RowKit strs kit

/-- the digits that are still to be put ahead -/
def ahead (u : Nat) : List UInt8 := if u = 0 then [] else Lib.decDigits u
theorem ahead_zero : ahead 0 = [] := rfl
theorem ahead_step {u : Nat} (h : 1 ≤ u) : ahead u = ahead (u / 10) ++ [UInt8.ofNat (48 + u % 10)] := by
  unfold ahead
  rw [if_neg (by omega), Lib.decDigits]
  by_cases h1 : u < 10
  · rw [dif_pos h1, if_pos (by omega), show u % 10 = u from by omega]; rfl
  · rw [dif_neg h1, if_neg (by omega)]
theorem ahead_all {u : Nat} (h : 1 ≤ u) : ahead u = Lib.decDigits u := by unfold ahead; rw [if_neg (by omega)]

theorem dig_bs (d : Nat) (x : List UInt8) : ({ data := #[48 + UInt8.ofNat d] } : ByteArray) ++ bs x = bs (UInt8.ofNat (48 + d) :: x) := by
  have e : (48 + UInt8.ofNat d : UInt8) = UInt8.ofNat (48 + d) := by simp
  rw [e, ← bs_of (({ data := #[UInt8.ofNat (48 + d)] } : ByteArray) ++ bs x), ByteArray.data_append]; simp [bs]
theorem sign_bs (x : List UInt8) : ({ data := #[45] } : ByteArray) ++ bs x = bs (45 :: x) := by
  rw [← bs_of (({ data := #[45] } : ByteArray) ++ bs x), ByteArray.data_append]; simp [bs]
theorem neg_tmod (u : Nat) : (-(u : Int)).tmod 10 = -((u : Int) % 10) := by rw [Int.neg_tmod, Int.tmod_eq_emod_of_nonneg (by omega)]
theorem neg_tdiv (u : Nat) : (-(u : Int)).tdiv 10 = -((u : Int) / 10) := by rw [Int.neg_tdiv, Int.tdiv_eq_ediv_of_nonneg (by omega)]

set_option maxRecDepth 100000 in
set_option maxHeartbeats 1000000 in
theorem rtext_any (n : Int) (w : World) (n0 : -9223372036854775808 ≤ n) (n1 : n ≤ 9223372036854775807) :
    Calls Tryd.prog 19 #[.int .i64 n] w fun e w' => e = .returned (.string (bs (Lib.itoa n))) ∧ Below w.heap.size w w' := by
  by_cases hz : n = 0
  · subst hz
    have e : Lib.itoa 0 = [48] := by show Lib.decDigits 0 = _; rw [Lib.decDigits_one (by decide)]; rfl
    rw [e]
    clear e n0 n1
    go_enter Tryd.func19, Tryd.ntmps19
    go_wp2
    go_ret
    exact ⟨rfl, Below.refl _ _⟩
  · have t0 : (n == 0) = false := by rw [beq_eq_false_iff_ne]; exact hz
    by_cases hp : 0 < n
    · obtain ⟨N, rfl⟩ := Int.eq_ofNat_of_zero_le (Int.le_of_lt hp)
      have hN : 1 ≤ N := by omega
      have hit : Hid (Lib.itoa (N : Int) = Lib.decDigits N) := by show (if (N : Int) < 0 then _ else Lib.decDigits (N : Int).toNat) = _; rw [if_neg (by omega)]; rfl
      have tn : decide ((N : Int) < 0) = false := decide_eq_false (by omega)
      clear hz hp
      go_enter Tryd.func19, Tryd.ntmps19
      go_wp2
      go_loopw [3, 4] (fun t m wr => ∃ (x : List UInt8) (u : Nat), t = .string (bs x) ∧ m = .int .i64 u ∧ u ≤ N ∧ Hid (ahead u ++ x = Lib.decDigits N) ∧ x.length ≤ 20 ∧ u < 10 ^ (20 - x.length) ∧ Below w.heap.size w wr) (fun _ m _ => (intOf m).toNat)
      case atStart => exact ⟨[], N, rfl, rfl, Nat.le_refl _, by rw [ahead_all hN]; exact List.append_nil _, by simp, by simp; omega, Below.refl _ _⟩
      case round =>
        obtain ⟨x, u, rfl, rfl, hu, hx, hxl, hpow, hbl⟩ := hrel
        have hbx := bs_size x
        by_cases hu0 : 1 ≤ u
        · have tm : ((u : Int) != 0) = true := by rw [bne_iff_ne]; omega
          have hxl2 : x.length ≤ 19 := by
            rcases Nat.lt_or_ge x.length 20 with h | h
            · omega
            · rw [show 20 - x.length = 0 from by omega] at hpow; simp at hpow; omega
          have hpow2 : u / 10 < 10 ^ (20 - (x.length + 1)) := by
            rw [show 20 - x.length = (20 - (x.length + 1)) + 1 from by omega, Nat.pow_succ] at hpow
            omega
          have hnext : Hid (ahead (u / 10) ++ (UInt8.ofNat (48 + u % 10) :: x) = Lib.decDigits N) := by
            have := hx.out
            rw [ahead_step hu0] at this
            show ahead (u / 10) ++ ([UInt8.ofNat (48 + u % 10)] ++ x) = _
            rw [← this, List.append_assoc]
          clear hpow hx
          have kc := fun (w : World) => kit.str1i w (48 + (u : Int) % 10) (by omega) (by omega)
          go_wp2
          go_roundw
          case rel => exact ⟨UInt8.ofNat (48 + u % 10) :: x, u / 10, congrArg _ (dig_bs _ _), by go_num, by omega, hnext, by simp; omega, by simpa using hpow2, hbl.alloc hbl.size _⟩
          case measure => simp [intOf]; omega
        · have hu1 : u = 0 := by omega
          subst hu1
          have hfin : Hid (x = Lib.itoa (N : Int)) := by have := hx.out; rw [ahead_zero, List.nil_append] at this; rw [hit.out]; exact this
          clear hx
          go_wp2
          go_ret
          exact ⟨by rw [← hfin.out]; rfl, hbl⟩
    · obtain ⟨N, hNn⟩ : ∃ N : Nat, n = -(N : Int) := ⟨n.natAbs, by omega⟩
      subst hNn
      have hN : 1 ≤ N := by omega
      have hit : Hid (Lib.itoa (-(N : Int)) = 45 :: Lib.decDigits N) := by
        show (if (-(N : Int)) < 0 then 45 :: Lib.decDigits (-(N : Int)).natAbs else _) = _
        rw [if_pos (by omega)]; simp
      have tn : decide (-(N : Int) < 0) = true := decide_eq_true (by omega)
      clear hz hp
      go_enter Tryd.func19, Tryd.ntmps19
      go_wp2
      go_loopw [3, 4, 5] (fun t m _ wr => ∃ (x : List UInt8) (u : Nat), t = .string (bs x) ∧ m = .int .i64 (-(u : Int)) ∧ u ≤ N ∧ Hid (ahead u ++ x = Lib.decDigits N) ∧ x.length ≤ 20 ∧ u < 10 ^ (20 - x.length) ∧ Below w.heap.size w wr) (fun _ m _ _ => (intOf m).natAbs)
      case atStart => exact ⟨[], N, rfl, rfl, Nat.le_refl _, by rw [ahead_all hN]; exact List.append_nil _, by simp, by simp; omega, Below.refl _ _⟩
      case round =>
        obtain ⟨x, u, rfl, rfl, hu, hx, hxl, hpow, hbl⟩ := hrel
        have hbx := bs_size x
        by_cases hu0 : 1 ≤ u
        · have tm : (-(u : Int) != 0) = true := by rw [bne_iff_ne]; omega
          have hxl2 : x.length ≤ 19 := by
            rcases Nat.lt_or_ge x.length 20 with h | h
            · omega
            · rw [show 20 - x.length = 0 from by omega] at hpow; simp at hpow; omega
          have hpow2 : u / 10 < 10 ^ (20 - (x.length + 1)) := by
            rw [show 20 - x.length = (20 - (x.length + 1)) + 1 from by omega, Nat.pow_succ] at hpow
            omega
          have hnext : Hid (ahead (u / 10) ++ (UInt8.ofNat (48 + u % 10) :: x) = Lib.decDigits N) := by
            have := hx.out
            rw [ahead_step hu0] at this
            show ahead (u / 10) ++ ([UInt8.ofNat (48 + u % 10)] ++ x) = _
            rw [← this, List.append_assoc]
          clear hpow hx
          have q2 := neg_tdiv u
          by_cases hd : u % 10 = 0
          · have kc := fun (w : World) => kit.str1i w 48 (by omega) (by omega)
            have q1 : (-(u : Int)).tmod 10 = 0 := by rw [neg_tmod]; omega
            have hnext0 : Hid (ahead (u / 10) ++ (48 :: x) = Lib.decDigits N) := by have := hnext.out; rwa [hd] at this
            clear hd hnext
            go_wp2
            go_roundw
            case rel => exact ⟨48 :: x, u / 10, congrArg _ (dig_bs 0 _), by go_num, by omega, hnext0, by simp; omega, by simpa using hpow2, hbl.alloc hbl.size _⟩
            case measure => simp [intOf]; omega
          · have kc := fun (w : World) => kit.str1i w (48 + (u : Int) % 10) (by omega) (by omega)
            have q1 := neg_tmod u
            go_wp2
            go_roundw
            case rel => exact ⟨UInt8.ofNat (48 + u % 10) :: x, u / 10, congrArg _ (dig_bs _ _), by go_num, by omega, hnext, by simp; omega, by simpa using hpow2, hbl.alloc hbl.size _⟩
            case measure => simp [intOf]; omega
        · have hu1 : u = 0 := by omega
          subst hu1
          have hfin : Hid (bs (45 :: x) = bs (Lib.itoa (-(N : Int)))) := by have := hx.out; rw [ahead_zero, List.nil_append] at this; rw [hit.out, this]; rfl
          clear hx
          go_wp2
          go_ret
          exact ⟨by rw [← hfin.out, ← sign_bs]; rfl, hbl⟩

/-! ### words that came in -/
/-- the words as lists of bytes -/
def dataOf (ss : List ByteArray) : List (List UInt8) := ss.map (·.data.toList)
theorem strs_at {w : World} {x : Addr} {ss : List ByteArray} (h : ∀ i, i < ss.length → w.cell? (x.add i) = some (.string (ss.getD i ByteArray.empty))) (hp : 0 < ss.length) :
    ∃ b off, x = ⟨b, off, none⟩ ∧ ∀ j, j < ss.length → w.cell? ⟨b, off + j, none⟩ = some (.string (ss.getD j ByteArray.empty)) := by
  obtain ⟨b, off, spot⟩ := x
  have hspot : spot = none := by simpa [Addr.add] using World.cell?_spot (h 0 hp)
  subst hspot
  exact ⟨b, off, rfl, fun j hj => by rw [← Go.WideShapes.add_plain]; exact h j hj⟩
theorem join_snoc (l : List (List UInt8)) (x : List UInt8) (h : l ≠ []) : Lib.join (l ++ [x]) [32] = Lib.join l [32] ++ ([32] ++ x) := by
  cases l with
  | nil => exact absurd rfl h
  | cons y r => rw [List.cons_append, Lib.join_cons, Lib.join_cons]; simp [Lib.joinTail]
theorem wsum_take_le (l : List (List UInt8)) (k : Nat) : wsum (l.take k) ≤ wsum l := by
  have : wsum (l.take k ++ l.drop k) = wsum (l.take k) + wsum (l.drop k) := wsum_append _ _
  rw [List.take_append_drop] at this; omega
theorem mem_wsum {x : List UInt8} {l : List (List UInt8)} (h : x ∈ l) : x.length ≤ wsum l := by
  induction l with
  | nil => cases h
  | cons y r ih =>
    rw [wsum_cons]
    rcases List.mem_cons.1 h with rfl | h
    · omega
    · have := ih h; omega

set_option maxRecDepth 100000 in
set_option maxHeartbeats 1000000 in
theorem rjoin_row (b off len cap : Nat) (ys : List ByteArray) (w : World) (hl : ys.length = len) (hlen : len ≤ 1000) (hsum : wsum (dataOf ys) ≤ 1099511627776)
    (hc : ∀ j (hj : j < ys.length), w.cell? ⟨b, off + j, none⟩ = some (.string ys[j])) :
    Calls Tryd.prog 21 #[.slice (some ⟨b, off, none⟩) len cap] w fun e w' => e = .returned (.string (bs (Lib.join (dataOf ys) [32]))) ∧ w = w' := by
  have HS := Lib.hid hsum
  have HC := Lib.hid hc
  have HL := Lib.hid hl
  clear hc hsum hl
  go_enter Tryd.func21, Tryd.ntmps21
  go_wp2
  go_loop [3, 4] (fun t i => ∃ (k : Nat) (J : ByteArray), k ≤ len ∧ i = .int .i64 k ∧ t = .string J ∧ J.size ≤ 1099511627776 ∧ Hid (J = bs (Lib.join ((dataOf ys).take k) [32]))) (fun _ i => len - (intOf i).toNat)
  case atStart => exact ⟨0, _, Nat.zero_le _, rfl, rfl, by decide, rfl⟩
  case round =>
    obtain ⟨k, J, hk, rfl, rfl, hJs, hJ⟩ := hrel
    by_cases hlt : k < len
    · have hky : k < ys.length := by rw [HL.out]; exact hlt
      have hcell := HC.out k hky
      have hmem : ys[k].data.toList.length ≤ 1099511627776 := Nat.le_trans (mem_wsum (List.mem_map.2 ⟨_, List.getElem_mem hky, rfl⟩)) HS.out
      obtain ⟨y, hy⟩ : ∃ y, ys[k] = y := ⟨_, rfl⟩
      rw [hy] at hcell hmem
      have hys : y.size ≤ 1099511627776 := hmem
      have hk2 : k < (dataOf ys).length := by unfold dataOf; rw [List.length_map]; exact hky
      have htk : (dataOf ys).take (k + 1) = (dataOf ys).take k ++ [y.data.toList] := by
        rw [List.take_succ_eq_append_getElem hk2]
        congr 1
        simp [dataOf, hy]
      have hls : (bs (Lib.join ((dataOf ys).take (k + 1)) [32])).size ≤ 1099511627776 := by
        rw [bs_size]; exact Nat.le_trans (join_length _) (Nat.le_trans (wsum_take_le _ _) HS.out)
      have HY := Lib.hid hy
      clear hy hmem
      by_cases hk0 : k = 0
      · subst hk0
        have hnext : J ++ y = bs (Lib.join ((dataOf ys).take (0 + 1)) [32]) := by
          rw [hJ.out, htk, List.take_zero, List.nil_append, Lib.join_one, Lib.join_nil, bs_of, ← bs_of (bs [] ++ y), ByteArray.data_append]
          simp [bs]
        have HN := Lib.hid hnext
        have HLS : Hid ((J ++ y).size ≤ 1099511627776) := by rw [hnext]; exact hls
        rw [Nat.add_zero] at hcell
        clear htk hls hnext
        go_wp2
        go_round
        case rel => exact ⟨1, _, by omega, by go_num, rfl, HLS.out, HN.out⟩
        case measure => simp [intOf]; omega
      · have hnext : (J ++ { data := #[32] }) ++ y = bs (Lib.join ((dataOf ys).take (k + 1)) [32]) := by
          have e : (dataOf ys).take k ≠ [] := by
            intro e
            have := congrArg List.length e
            simp at this
            rcases this with h | h
            · exact hk0 h
            · rw [h] at hk2; simp at hk2
          rw [htk, join_snoc _ _ e, ← bs_append, ← bs_append, bs_of, ← hJ.out]
          rw [← bs_of ((J ++ { data := #[32] }) ++ y), ← bs_of (J ++ (bs [32] ++ y))]
          simp [ByteArray.data_append, bs]
        have HN := Lib.hid hnext
        have HLS : Hid (((J ++ { data := #[32] }) ++ y).size ≤ 1099511627776) := by rw [hnext]; exact hls
        have tk : decide (0 < (k : Int)) = true := decide_eq_true (by omega)
        clear htk hls hnext
        go_wp2
        go_round
        case rel => exact ⟨k + 1, _, by omega, by go_num, rfl, HLS.out, HN.out⟩
        case measure => simp [intOf]; omega
    · have hfin : Hid (J = bs (Lib.join (dataOf ys) [32])) := by
        rw [hJ.out, List.take_of_length_le (by unfold dataOf; rw [List.length_map, HL.out]; omega)]; rfl
      go_wp2
      go_ret
      exact ⟨by rw [← hfin.out]; rfl, rfl⟩
set_option maxRecDepth 100000 in
theorem rjoin_none (a : Option Addr) (cap : Nat) (w : World) :
    Calls Tryd.prog 21 #[.slice a 0 cap] w fun e w' => e = .returned (.string (bs [])) ∧ w = w' := by
  go_enter Tryd.func21, Tryd.ntmps21
  go_wp2
  refine wp_loop_rounds 1 ?_; rw [rounds_succ]
  go_wp2
  go_ret
  exact ⟨rfl, rfl⟩

/-- the elements of the words that came in, where they lie -/
theorem words_in {w : World} {a : Option Addr} {len cap : Nat} {ss : List ByteArray} (h : IsStrs w a len cap ss) (hp : 0 < len) :
    ∃ b off, a = some ⟨b, off, none⟩ ∧ b < w.heap.size ∧ (ss.take len).length = len ∧ len ≤ cap ∧ ∀ j (hj : j < (ss.take len).length), w.cell? ⟨b, off + j, none⟩ = some (.string (ss.take len)[j]) := by
  rcases h with ⟨_, h, _⟩ | ⟨x, rfl, h2, h3, h4, h5, h6⟩
  · omega
  · obtain ⟨b, off, rfl, hc⟩ := strs_at h5 (by omega)
    have hl : (ss.take len).length = len := by simp; omega
    have hc' : ∀ j (hj : j < (ss.take len).length), w.cell? ⟨b, off + j, none⟩ = some (.string (ss.take len)[j]) := by
      intro j hj
      have hj2 : j < ss.length := by omega
      rw [hc j hj2]
      simp [hj2]
    exact ⟨b, off, rfl, World.block_lt_of_cell? w _ (hc' 0 (by omega)), hl, h2, hc'⟩
theorem rjoin_any {w : World} {a : Option Addr} {len cap : Nat} {ss : List ByteArray} (h : IsStrs w a len cap ss) (hlen : len ≤ 1000) (hsum : wsum (dataOf (ss.take len)) ≤ 1099511627776) :
    Calls Tryd.prog 21 #[.slice a len cap] w fun e w' => e = .returned (.string (bs (Lib.join (dataOf (ss.take len)) [32]))) ∧ w = w' := by
  by_cases hp : 0 < len
  · obtain ⟨b, off, rfl, _, hl, _, hc⟩ := words_in h hp
    exact rjoin_row b off len cap _ w hl hlen hsum hc
  · obtain rfl : len = 0 := by omega
    exact rjoin_none a cap w
set_option maxRecDepth 100000 in
set_option maxHeartbeats 400000 in
theorem ajoin_any {w : World} {a : Option Addr} {len cap : Nat} {ss : List ByteArray} (h : IsStrs w a len cap ss) (hlen : len ≤ 1000) (hsum : wsum (dataOf (ss.take len)) ≤ 1099511627776) :
    Calls Tryd.prog 20 #[.slice a len cap] w fun e w' => e = .returned (.string (bs (Lib.join (dataOf (ss.take len)) [32]))) ∧ Below w.heap.size w w' := by
  by_cases hp : 0 < len
  · obtain ⟨b, off, rfl, hb, hl, hlc, hc⟩ := words_in h hp
    have c1 := Tryd.strings_Join b off cap (ss.take len) ⟨#[32]⟩ w (fun j x hx => by
      obtain ⟨hj, rfl⟩ := List.getElem?_eq_some_iff.1 hx
      exact hc j hj) hb (by omega) (by omega) (by
        have := join_length (dataOf (ss.take len))
        show (Lib.join (dataOf (ss.take len)) [32]).length ≤ _
        omega)
    rw [hl] at c1
    have C1 : Hid (Calls Tryd.prog 29 #[.slice (some ⟨b, off, none⟩) len cap, .string ⟨#[32]⟩] w fun e w' => e = .returned (.string (bs (Lib.join (dataOf (ss.take len)) [32]))) ∧ Below w.heap.size w w') := c1
    clear c1 hc h
    go_enter Tryd.func20, Tryd.ntmps20
    go_wp2_with fail
    refine C1.out.mono ?_; rintro e w' ⟨rfl, hb⟩
    go_wp2
    go_ret
    exact ⟨rfl, hb⟩
  · obtain rfl : len = 0 := by omega
    have c1 := Lib.hid (Tryd.strings_Join_none a cap ⟨#[32]⟩ w)
    clear h
    go_enter Tryd.func20, Tryd.ntmps20
    go_wp2_with fail
    refine c1.out.mono ?_; rintro e w' ⟨rfl, rfl⟩
    go_wp2
    go_ret
    exact ⟨rfl, Below.refl _ _⟩
end Go.Proofs.YtoeadafgokdacaaDoor.lex
