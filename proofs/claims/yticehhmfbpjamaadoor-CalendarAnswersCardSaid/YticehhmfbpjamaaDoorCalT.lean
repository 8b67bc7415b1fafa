/- For every t, at, by CalendarTexts returns true: times survive their texts, and a changed text is read as the reference reads it. Condition: the listed tables hold what the program's text lays (the card ties that). -/
import Derived.Test.YticehhmfbpjamaaDoorCalRC
import Derived.Test.YticehhmfbpjamaaDoorCalS
import Derived.Test.YticehhmfbpjamaaDoorByteRow
import Derived.BigRegion
namespace Go.Proofs.YticehhmfbpjamaaDoor.cal
open Go.RowKit strs lex

theorem isTm_of {r : Int} (r0 : 0 ≤ r) (r1 : r < 16777217) : isTm r = true := decide_eq_true (by omega)
theorem print_at (t : Int) (s : ByteArray) (hs : s = bs (timeText t)) (ho : isTm t = true) (w : World) (h : Tabs w) :
    Calls Tryd.prog 15 #[.int .i64 t] w fun e w' => e = .returned (.tuple #[.string s, .int .i64 0]) ∧ Below w.heap.size w w' := by
  subst hs; exact print_ok t ho w h
theorem tail_bs (s : ByteArray) : s.extract 1 s.size = bs (s.data.toList.drop 1) := by
  rw [extract_bs]; congr 1; rw [List.take_of_length_le]; simp
theorem cell_new (w0 : World) (g : Nat) (hg : g = w0.heap.size) (C : Array Value) (t m : Nat) : (w0.alloc (.cells C t)).drew.cell? ⟨g, m, none⟩ = C[m]? := by
  subst hg
  have e : (w0.alloc (.cells C t)).drew.heap[w0.heap.size]? = some (.cells C t (0, 0)) := heap_alloc_new w0 _
  simp only [World.cell?, e]
  simp
theorem to_byte {c : Int} (c0 : 0 ≤ c) (c1 : c ≤ 255) : ((UInt8.ofNat c.toNat).toNat : Int) = c := by simp; omega
set_option maxRecDepth 100000 in
set_option maxHeartbeats 1000000 in
theorem texts_walk (t n c : Int) (w : World) (t0 : -9223372036854775808 ≤ t) (t1 : t ≤ 9223372036854775807) (n0 : 0 ≤ n) (n1 : n ≤ 255) (c0 : 0 ≤ c) (c1 : c ≤ 255) (h : CTabs w) :
    Calls Tryd.prog 4 #[.int .i64 t, .int .u8 n, .int .u8 c] w fun e w' => e = .returned (.bool true) ∧ Below w.heap.size w w' := by
  have H := Lib.hid h
  clear h
  go_enter Tryd.func4, Tryd.ntmps4
  go_wp2_with fail
  refine (mod_any t 16777217 _ (by omega) (by omega) t0 t1).mono ?_; rintro e w1 ⟨r, rfl, r0, r1, rfl⟩
  have ho := isTm_of r0 r1
  obtain ⟨s, hs⟩ : ∃ s, s = bs (timeText r) := ⟨_, rfl⟩
  have hlen := timeText_length ho
  have hsz : s.size = (timeText r).length := by rw [hs, bs_size]
  have s0 : 7 ≤ s.size := by omega
  have s1 : s.size ≤ 40 := by omega
  have C1 := Lib.hid (fun w h => print_at r s hs ho w h)
  have C2 := Lib.hid (fun w h => parse_at s (timeText r) hs r 0 (parse_text ho).1 (parse_text ho).2 (by omega) w h)
  have HS := Lib.hid hs
  have HZ := Lib.hid hsz
  clear hs hlen hsz ho
  go_wp2_with fail
  refine (C1.out _ H.out.tabs).mono ?_; rintro e w1 ⟨rfl, b1⟩
  have H1 := Lib.hid (H.out.below b1)
  go_wp2_with fail
  refine (C2.out _ H1.out).mono ?_; rintro e w2 ⟨rfl, b2⟩
  have B2 := Lib.hid (b1.trans (b2.mono b1.size))
  have H2 := Lib.hid (H1.out.below b2)
  clear b1 b2
  obtain ⟨cap, w3, conv1, row, b3, lt3⟩ := to_bytes w2 (timeText r)
  rw [← HS.out, ← HZ.out] at conv1
  obtain ⟨j, hj⟩ : ∃ j : Nat, n % (s.size : Int) = j := ⟨(n % (s.size : Int)).toNat, by have := Int.emod_nonneg n (show (s.size : Int) ≠ 0 by omega); omega⟩
  have hj1 : j < s.size := by have := Int.emod_lt_of_pos n (show (0 : Int) < s.size by omega); omega
  have cel := row.cell j (by rw [← HZ.out]; exact hj1)
  have fz := row.free j (by rw [← HZ.out]; exact hj1)
  have row2 := row.set j (by rw [← HZ.out]; exact hj1) (UInt8.ofNat c.toNat)
  rw [to_byte c0 c1] at row2
  obtain ⟨l2, hl2⟩ : ∃ l2, l2 = (timeText r).set j (UInt8.ofNat c.toNat) := ⟨_, rfl⟩
  have l2n : l2.length ≤ 40 := by rw [hl2, List.length_set, ← HZ.out]; exact s1
  have conv2 := row2.drew.back (cap := cap) s.size (by rw [List.length_set, ← HZ.out])
  rw [← hl2] at conv2
  have B3 := Lib.hid (B2.out.trans (b3.mono B2.out.size))
  have LT3 := Lib.hid lt3
  have le3 := B3.out.size
  have le2 := B2.out.size
  have tz : ((s.size : Int) == 0) = false := by rw [beq_eq_false_iff_ne]; omega
  have hsmall : ∀ k x, [l2, (timeText r).drop 1, 48 :: timeText r, timeText r ++ [32]].getD k [] = x → x.length ≤ 41 := by
    intro k x hx
    have hz := HZ.out
    subst hx
    rcases k with _ | _ | _ | _ | k
    · show l2.length ≤ 41; omega
    · show ((timeText r).drop 1).length ≤ 41; rw [List.length_drop]; omega
    · show (48 :: timeText r).length ≤ 41; rw [List.length_cons]; omega
    · show (timeText r ++ [32]).length ≤ 41; rw [List.length_append]; simp; omega
    · simp
  have HL := Lib.hid hsmall
  have e1 := Lib.hid (show s.extract 1 s.size = bs ((timeText r).drop 1) from by rw [tail_bs, HS.out, bs_data])
  have e2 := Lib.hid (show ({ data := #[48] } : ByteArray) ++ s = bs (48 :: timeText r) from by rw [HS.out]; exact lead_bs _ _)
  have e3 := Lib.hid (show s ++ ({ data := #[32] } : ByteArray) = bs (timeText r ++ [32]) from by rw [HS.out]; exact bs_push _ _)
  clear row row2 b3 hl2 hsmall
  go_wp2
  go_region
  go_wp2
  clear hj cel fz conv1 conv2 tz
  go_loopw [67] (fun i wr => ∃ k : Nat, k ≤ 4 ∧ i = .int .i64 k ∧ Below w.heap.size w wr ∧ Hid (∀ m, m < 4 → wr.cell? ⟨w3.heap.size, m, none⟩ = some (.string (bs ([l2, (timeText r).drop 1, 48 :: timeText r, timeText r ++ [32]].getD m []))))) (fun i _ => 4 - (intOf i).toNat)
  case atStart =>
    refine ⟨0, by omega, rfl, ?_, ?_⟩
    · exact ((B3.out.setCell (p := ⟨w2.heap.size, j, none⟩) le2 _).alloc (by simpa using le3) _).drew
    · intro m hm
      rw [e1.out, e2.out, e3.out]
      have h0 : m = 0 ∨ m = 1 ∨ m = 2 ∨ m = 3 := by omega
      refine (cell_new (w3.setCell ⟨w2.heap.size, j, none⟩ (.int .u8 c)) w3.heap.size (by simp) _ _ m).trans ?_
      rcases h0 with rfl | rfl | rfl | rfl <;> rfl
  case round =>
    obtain ⟨k, hk, rfl, bel, hc⟩ := hrel
    have HK := Lib.hid (H.out.below bel)
    by_cases hlt : k < 4
    · obtain ⟨x, hx⟩ : ∃ x, [l2, (timeText r).drop 1, 48 :: timeText r, timeText r ++ [32]].getD k [] = x := ⟨_, rfl⟩
      have hxl := HL.out k x hx
      have cell := hc.out k hlt
      rw [hx] at cell
      obtain ⟨v, hv⟩ : ∃ v, paV x = v := ⟨_, rfl⟩
      obtain ⟨q, hq⟩ : ∃ v, paE x = v := ⟨_, rfl⟩
      have D1 := Lib.hid (fun w h => parse_at (bs x) x rfl v q hv hq (by omega) w h)
      have D2 := Lib.hid (fun w => rparse_at (bs x) x rfl v q hv hq (by omega) w)
      clear hx hv hq
      go_wp2_with fail
      refine (D1.out _ HK.out).mono ?_; rintro e w5 ⟨rfl, b5⟩
      go_wp2_with fail
      refine (D2.out _).mono ?_; rintro e w6 ⟨rfl, b6⟩
      have BB := Lib.hid (bel.trans ((b5.trans (b6.mono b5.size)).mono bel.size))
      have CC := Lib.hid (b5.trans (b6.mono b5.size))
      have CX : Hid (∀ m, m < 4 → w6.cell? ⟨w3.heap.size, m, none⟩ = some (.string (bs ([l2, (timeText r).drop 1, 48 :: timeText r, timeText r ++ [32]].getD m [])))) := by
        intro m hm
        rw [CC.out.cell (World.block_lt_of_cell? _ _ (hc.out m hm))]
        exact hc.out m hm
      clear b5 b6
      go_wp2
      go_roundw
      case rel => first | exact ⟨k + 1, by omega, by go_num, BB.out, CX⟩ | ((repeat apply Exists.intro); exact ⟨⟨k + 1, by omega, by go_num, BB.out, CX⟩, rfl⟩)
      case measure => simp [intOf]; omega
    · go_wp2_with fail
      refine (awake_any _ HK.out).mono ?_; rintro e w5 ⟨rfl, b5⟩
      go_wp2
      go_ret
      exact ⟨rfl, bel.trans (b5.mono bel.size)⟩
end Go.Proofs.YticehhmfbpjamaaDoor.cal
