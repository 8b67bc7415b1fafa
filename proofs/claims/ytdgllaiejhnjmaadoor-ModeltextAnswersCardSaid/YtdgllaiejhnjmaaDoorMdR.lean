/- The walks of the reference of layer 4: the word of a kind, the node with a name, Print. Condition: none. -/
import Derived.Test.YtdgllaiejhnjmaaDoorMdD
import Derived.Test.YtdgllaiejhnjmaaDoorNetQ
import Derived.Test.YtdgllaiejhnjmaaDoorRTx
import Derived.Test.YtdgllaiejhnjmaaDoorInv2
namespace Go.Proofs.YtdgllaiejhnjmaaDoor.mod
open Go.RowKit lex net aggs kit strs

theorem kw_arr (k : Nat) (h6 : k ≤ 6) : (#[.string ⟨#[]⟩, .string ⟨#[108, 105, 110, 101]⟩, .string ⟨#[98, 114, 101, 97, 107, 101, 114]⟩, .string ⟨#[100, 105, 115, 99, 111, 110, 110, 101, 99, 116, 111, 114]⟩, .string ⟨#[101, 97, 114, 116, 104]⟩, .string ⟨#[105, 110, 102, 101, 101, 100]⟩, .string ⟨#[103, 101, 110, 101, 114, 97, 116, 111, 114]⟩] : Array Value)[k]? = some (.string (bs (kw k))) := by
  rcases (show k = 0 ∨ k = 1 ∨ k = 2 ∨ k = 3 ∨ k = 4 ∨ k = 5 ∨ k = 6 by omega) with rfl | rfl | rfl | rfl | rfl | rfl | rfl <;> rfl
set_option maxRecDepth 100000 in
theorem rword_is (k : Nat) (h6 : k ≤ 6) (w : World) :
    Calls Tryd.prog 25 #[.int .i64 (k : Int)] w fun e w' => e = .returned (.string (bs (kw k))) ∧ Below w.heap.size w w' := by
  have LA := kw_arr k h6
  have h7 : (k : Int) < 7 := by omega
  go_enter Tryd.func25, Tryd.ntmps25
  go_wp2
  go_ret
  exact ⟨rfl, below_box w _⟩
set_option maxRecDepth 100000 in
set_option maxHeartbeats 1000000 in
theorem rfind_is (a b : Option Addr) (N c M d : Nat) (s : ByteArray) (xs : List Nd) (r : Int) (w : World) (hn : xs.length = N) (h : RIn encNd 3 w a xs) (hl : N ≤ maxLen) (hr : fnd (nmsN xs) s = r) :
    Calls Tryd.prog 49 #[.agg #[.slice a N c, .slice b M d], .string s] w fun e w' => e = .returned (.int .i64 r) ∧ Below w.heap.size w w' := by
  unfold maxLen at hl
  have bx := below_box w (.cells #[.slice a N c, .slice b M d] 26)
  have NT := Lib.hid (NtAt.new w (.slice a N c) (.slice b M d) 26)
  have HI := Lib.hid (h.below bx)
  have BX := Lib.hid bx
  have HN := Lib.hid hn
  have HR := Lib.hid hr
  have hml : Hid ((nmsN xs).length = N) := by show _ = N; rw [← hn]; simp [nmsN]
  have hmg : Hid (∀ i (hi : i < xs.length), ∃ hi' : i < (nmsN xs).length, (nmsN xs)[i] = xs[i].nm) := fun i hi => ⟨by rw [hml.out, ← HN.out]; exact hi, by simp [nmsN]⟩
  clear hn hr h bx
  go_enter Tryd.func49, Tryd.ntmps49
  go_wp2_with fail
  obtain ⟨q1, q2, q3⟩ := NT.out
  go_loop [5] (fun i => ∃ j : Nat, j ≤ N ∧ i = .int .i64 j ∧ Hid (∀ i (hi : i < (nmsN xs).length), i < j → (nmsN xs)[i] ≠ s)) (fun i => N - (intOf i).toNat)
  case atStart => exact ⟨0, Nat.zero_le _, rfl, fun i hi h => by cases h⟩
  case round =>
    obtain ⟨j, hj, rfl, hno⟩ := hrel
    by_cases hjn : j < N
    · have hjx : j < xs.length := by rw [HN.out]; exact hjn
      obtain ⟨g, o, rfl, hg, hc⟩ := HI.out.some (by omega)
      obtain ⟨c0, -⟩ := cells_nd hc j hjx
      obtain ⟨x, hx⟩ : ∃ x, xs[j].nm = x := ⟨_, rfl⟩
      rw [hx] at c0
      have HX := Lib.hid hx
      clear hx hc
      by_cases e : x = s
      · have hr' : r = j := by
          obtain ⟨hi', he⟩ := hmg.out j hjx
          rw [← HR.out]; exact fnd_hit hi' (he.trans (HX.out.trans e)) hno.out
        have T : (x.toList == s.toList) = true := by rw [str_eq]; exact decide_eq_true e
        clear e HX hjx
        subst hr'
        go_wp2
        go_ret
        exact ⟨rfl, BX.out⟩
      · have T : (x.toList == s.toList) = false := by rw [str_eq]; exact decide_eq_false e
        have hnext : Hid (∀ i (hi : i < (nmsN xs).length), i < j + 1 → (nmsN xs)[i] ≠ s) := fun i hi hij => by
          by_cases e1 : i = j
          · subst e1; obtain ⟨_, he⟩ := hmg.out i hjx; rw [he, HX.out]; exact e
          · exact hno.out i hi (by omega)
        clear e HX hjx hno
        go_wp2
        go_round
        case rel => exact ⟨j + 1, by omega, by go_num, hnext⟩
        case measure => simp [intOf]; omega
    · obtain rfl : j = N := by omega
      have hr' : r = -1 := by rw [← HR.out]; exact fnd_none (fun i hi => hno.out i hi (by rw [← hml.out]; exact hi))
      subst hr'
      go_wp2
      go_ret
      exact ⟨rfl, BX.out⟩
theorem itoa_bs (n : Int) (h0 : -9223372036854775808 ≤ n) (h1 : n ≤ 9223372036854775807) : (bs (Lib.itoa n)).size ≤ 21 := by rw [bs_size]; exact itoa_length n h0 h1
theorem nd_text (nm : ByteArray) (cu co : Int) : ((((((⟨#[110, 111, 100, 101, 32]⟩ : ByteArray) ++ nm) ++ (⟨#[32, 99, 117, 115, 116, 111, 109, 101, 114, 115, 32]⟩ : ByteArray)) ++ bs (Lib.itoa cu)) ++ (⟨#[32, 99, 111, 109, 112, 97, 110, 121, 32]⟩ : ByteArray)) ++ bs (Lib.itoa co)) ++ (⟨#[10]⟩ : ByteArray) = bs (Lib.join (ndW ⟨nm, cu, co⟩) [32] ++ [10]) := by
  apply ByteArray.ext
  apply Array.ext'
  simp [ByteArray.data_append, bs, ndW, wNode, wCus, wCom, Lib.join]
theorem dv_text4 (kk : List UInt8) (nm na nb u : ByteArray) (co : Int) : ((u ++ ((((bs kk ++ (⟨#[32]⟩ : ByteArray)) ++ nm) ++ (⟨#[32]⟩ : ByteArray)) ++ na)) ++ ((⟨#[32]⟩ : ByteArray) ++ nb)) ++ (((⟨#[32, 99, 111, 109, 112, 97, 110, 121, 32]⟩ : ByteArray) ++ bs (Lib.itoa co)) ++ (⟨#[10]⟩ : ByteArray)) = u ++ bs (Lib.join [kk, nm.data.toList, na.data.toList, nb.data.toList, wCom, Lib.itoa co] [32] ++ [10]) := by
  apply ByteArray.ext
  apply Array.ext'
  simp [ByteArray.data_append, bs, wCom, Lib.join]
theorem dv_text3 (kk : List UInt8) (nm na u : ByteArray) (co : Int) : (u ++ ((((bs kk ++ (⟨#[32]⟩ : ByteArray)) ++ nm) ++ (⟨#[32]⟩ : ByteArray)) ++ na)) ++ (((⟨#[32, 99, 111, 109, 112, 97, 110, 121, 32]⟩ : ByteArray) ++ bs (Lib.itoa co)) ++ (⟨#[10]⟩ : ByteArray)) = u ++ bs (Lib.join [kk, nm.data.toList, na.data.toList, wCom, Lib.itoa co] [32] ++ [10]) := by
  apply ByteArray.ext
  apply Array.ext'
  simp [ByteArray.data_append, bs, wCom, Lib.join]
def DRn (x : Nat) (nm t s3 s4 s8 s9 s13 s14 s15 : ByteArray) (cu co : Int) : Nat → Value → World → Prop
  | 0, v, _ => v = .string t
  | 1, v, _ => v = .pointer (some ⟨x, 0, none⟩)
  | 2, v, _ => v = .string nm
  | 3, v, _ => v = .string s3
  | 4, v, _ => v = .string s4
  | 5, v, _ => v = .pointer (some ⟨x, 1, none⟩)
  | 6, v, _ => v = .int .i64 cu
  | 7, v, _ => v = .string (bs (Lib.itoa cu))
  | 8, v, _ => v = .string s8
  | 9, v, _ => v = .string s9
  | 10, v, _ => v = .pointer (some ⟨x, 2, none⟩)
  | 11, v, _ => v = .int .i64 co
  | 12, v, _ => v = .string (bs (Lib.itoa co))
  | 13, v, _ => v = .string s13
  | 14, v, _ => v = .string s14
  | 15, v, _ => v = .string s15
  | 16, v, _ => v = .string s15
  | _, _, _ => True
theorem DRn.kept {x : Nat} {nm t s3 s4 s8 s9 s13 s14 s15 : ByteArray} {cu co : Int} {W W' : World} (_hb : Below W.heap.size W W') : ∀ j v, DRn x nm t s3 s4 s8 s9 s13 s14 s15 cu co j v W → DRn x nm t s3 s4 s8 s9 s13 s14 s15 cu co j v W'
  | 0, _, h => h
  | 1, _, h => h
  | 2, _, h => h
  | 3, _, h => h
  | 4, _, h => h
  | 5, _, h => h
  | 6, _, h => h
  | 7, _, h => h
  | 8, _, h => h
  | 9, _, h => h
  | 10, _, h => h
  | 11, _, h => h
  | 12, _, h => h
  | 13, _, h => h
  | 14, _, h => h
  | 15, _, h => h
  | 16, _, h => h
  | _ + 17, _, h => h
def DRd (x y g o N c k A : Nat) (nm na u s4 s7 s8 s16 s17 : ByteArray) : Nat → Value → World → Prop
  | 0, v, _ => v = .string u
  | 1, v, _ => v = .pointer (some ⟨y, 1, none⟩)
  | 2, v, _ => v = .int .i64 (k : Int)
  | 3, v, _ => v = .string (bs (kw k))
  | 4, v, _ => v = .string s4
  | 5, v, _ => v = .pointer (some ⟨y, 0, none⟩)
  | 6, v, _ => v = .string nm
  | 7, v, _ => v = .string s7
  | 8, v, _ => v = .string s8
  | 9, v, _ => v = .pointer (some ⟨x, 0, none⟩)
  | 10, v, _ => v = .slice (some ⟨g, o, none⟩) N c
  | 11, v, _ => v = .pointer (some ⟨y, 2, none⟩)
  | 12, v, _ => v = .int .i64 (A : Int)
  | 13, v, _ => v = .pointer (some ⟨g, o + A * 3, none⟩)
  | 14, v, _ => v = .pointer (some ⟨g, o + A * 3, none⟩)
  | 15, v, _ => v = .string na
  | 16, v, _ => v = .string s16
  | 17, v, _ => v = .string s17
  | 18, v, _ => v = .string s17
  | _, _, _ => True
theorem DRd.kept {x y g o N c k A : Nat} {nm na u s4 s7 s8 s16 s17 : ByteArray} {W W' : World} (_hb : Below W.heap.size W W') : ∀ j v, DRd x y g o N c k A nm na u s4 s7 s8 s16 s17 j v W → DRd x y g o N c k A nm na u s4 s7 s8 s16 s17 j v W'
  | 0, _, h => h
  | 1, _, h => h
  | 2, _, h => h
  | 3, _, h => h
  | 4, _, h => h
  | 5, _, h => h
  | 6, _, h => h
  | 7, _, h => h
  | 8, _, h => h
  | 9, _, h => h
  | 10, _, h => h
  | 11, _, h => h
  | 12, _, h => h
  | 13, _, h => h
  | 14, _, h => h
  | 15, _, h => h
  | 16, _, h => h
  | 17, _, h => h
  | 18, _, h => h
  | _ + 19, _, h => h
set_option maxRecDepth 100000 in
set_option maxHeartbeats 4000000 in
theorem rprint_good (a b : Option Addr) (N c M d : Nat) (ns : List Nd) (ds : List Dv) (w : World) (h : NetIn w a b N c M d ns ds) (hc : chk ns ds = 0) :
    Calls Tryd.prog 12 #[.agg #[.slice a N c, .slice b M d]] w fun e w' => e = .returned (.tuple #[.string (bs (printT ns ds)), .int .i64 0]) ∧ Below w.heap.size w w' := by
  have bx := below_box w (.cells #[.slice a N c, .slice b M d] 26)
  have NT := Lib.hid (NtAt.new w (.slice a N c) (.slice b M d) 26)
  have HN := Lib.hid (fun wr (bel : Below w.heap.size w wr) => h.below bel)
  have CK := Lib.hid (rcheck_is a b N c M d ns ds 0 _ (h.below bx) hc)
  have hs := chk_small hc
  rw [h.nlen, h.dlen] at hs
  obtain ⟨hN, hM⟩ : N ≤ 32 ∧ M ≤ 64 := by omega
  have LN := Lib.hid h.nlen
  have LD := Lib.hid h.dlen
  have NO := Lib.hid (nd_ok hc)
  have DO := Lib.hid (dv_ok hc)
  have NL := Lib.hid (fun i hi => nd_ln hc i hi)
  have DL := Lib.hid (fun i hi => dv_ln hc i hi)
  have BX := Lib.hid bx
  clear h hs bx
  go_enter Tryd.func12, Tryd.ntmps12
  go_wp2_with fail
  refine CK.out.mono ?_; rintro e w1 ⟨rfl, b1⟩
  have B1 : Hid (Below (w.heap.size + 1) (w.alloc (.cells #[.slice a N c, .slice b M d] 26)) w1) := by show Below _ _ _; simpa using b1
  clear b1
  obtain ⟨q1, q2, q3⟩ := NT.out.below B1.out (Nat.lt_succ_self _)
  go_wp2_with fail
  go_loopw [5, 6] (fun tv iv wr => ∃ (j : Nat) (t : ByteArray), j ≤ N ∧ iv = .int .i64 j ∧ tv = .string t ∧ t.size ≤ 133 * j ∧ Hid (t = bs (tx ((ns.take j).map ndW))) ∧ Hid (Below (w.heap.size + 1) (w.alloc (.cells #[.slice a N c, .slice b M d] 26)) wr)) (fun _ i _ => N - (intOf i).toNat)
  case atStart => exact ⟨0, _, Nat.zero_le _, rfl, rfl, by simp [ByteArray.size], rfl, B1⟩
  case round =>
    clear q1 q2 q3 B1
    obtain ⟨j, t, hj, rfl, rfl, htz, ht, bel⟩ := hrel
    obtain ⟨q1, q2, q3⟩ := NT.out.below bel.out (Nat.lt_succ_self _)
    have BL := Lib.hid (BX.out.trans (bel.out.mono (by omega)))
    by_cases hjn : j < N
    · have hjl : j < ns.length := by rw [LN.out]; exact hjn
      obtain ⟨g, o, rfl, hg, hcs⟩ := (HN.out _ BL.out).nin.some (by omega)
      obtain ⟨c0, c1, c2⟩ := cells_nd hcs j hjl
      obtain ⟨p1, p2, p3⟩ := NO.out _ (List.getElem_mem hjl)
      have hln := line_size (NL.out j hjl)
      have hnx := Lib.hid (fun ln (e : bs (Lib.join (ndW ns[j]) [32] ++ [10]) = ln) => (show t ++ ln = bs (tx ((ns.take (j + 1)).map ndW)) from by
        rw [List.take_succ_eq_append_getElem hjl, List.map_append]; exact tx_line ht.out e))
      obtain ⟨ln, hle⟩ : ∃ z, bs (Lib.join (ndW ns[j]) [32] ++ [10]) = z := ⟨_, rfl⟩
      rw [hle] at hln
      have HX := Lib.hid (hnx.out ln hle)
      have HLE := Lib.hid hle
      generalize ns[j] = x at *
      obtain ⟨nm, cu, co⟩ := x
      dsimp only at c0 c1 c2 p1 p2 p3
      have zu := itoa_bs cu (by omega) (by omega)
      have zo := itoa_bs co (by omega) (by omega)
      obtain ⟨s3, e3⟩ : ∃ z : ByteArray, (⟨#[110, 111, 100, 101, 32]⟩ : ByteArray) ++ nm = z := ⟨_, rfl⟩
      have z3 : s3.size ≤ 1000010 := by rw [← e3]; simp only [ByteArray.size_append]; have : (⟨#[110, 111, 100, 101, 32]⟩ : ByteArray).size = 5 := rfl; omega
      have E3 := Lib.hid e3
      obtain ⟨s4, e4⟩ : ∃ z : ByteArray, s3 ++ (⟨#[32, 99, 117, 115, 116, 111, 109, 101, 114, 115, 32]⟩ : ByteArray) = z := ⟨_, rfl⟩
      have z4 : s4.size ≤ 1000030 := by rw [← e4]; simp only [ByteArray.size_append]; have : (⟨#[32, 99, 117, 115, 116, 111, 109, 101, 114, 115, 32]⟩ : ByteArray).size = 11 := rfl; omega
      have E4 := Lib.hid e4
      obtain ⟨s8, e8⟩ : ∃ z : ByteArray, s4 ++ bs (Lib.itoa cu) = z := ⟨_, rfl⟩
      have z8 : s8.size ≤ 1000060 := by rw [← e8]; simp only [ByteArray.size_append]; omega
      have E8 := Lib.hid e8
      obtain ⟨s9, e9⟩ : ∃ z : ByteArray, s8 ++ (⟨#[32, 99, 111, 109, 112, 97, 110, 121, 32]⟩ : ByteArray) = z := ⟨_, rfl⟩
      have z9 : s9.size ≤ 1000080 := by rw [← e9]; simp only [ByteArray.size_append]; have : (⟨#[32, 99, 111, 109, 112, 97, 110, 121, 32]⟩ : ByteArray).size = 9 := rfl; omega
      have E9 := Lib.hid e9
      obtain ⟨s13, e13⟩ : ∃ z : ByteArray, s9 ++ bs (Lib.itoa co) = z := ⟨_, rfl⟩
      have z13 : s13.size ≤ 1000110 := by rw [← e13]; simp only [ByteArray.size_append]; omega
      have E13 := Lib.hid e13
      obtain ⟨s14, e14⟩ : ∃ z : ByteArray, s13 ++ (⟨#[10]⟩ : ByteArray) = z := ⟨_, rfl⟩
      have z14 : s14.size ≤ 1000120 := by rw [← e14]; simp only [ByteArray.size_append]; have : (⟨#[10]⟩ : ByteArray).size = 1 := rfl; omega
      have E14 := Lib.hid e14
      obtain ⟨s15, e15⟩ : ∃ z : ByteArray, t ++ s14 = z := ⟨_, rfl⟩
      have z15 : s15.size ≤ 2000000 := by rw [← e15]; simp only [ByteArray.size_append]; omega
      have E15 := Lib.hid e15
      clear e3 e4 e8 e9 e13 e14 e15
      have SX : Hid (s15 = t ++ ln ∧ s15.size ≤ 133 * (j + 1)) := by
        have e : s14 = ln := by
          rw [← HLE.out, ← E14.out, ← E13.out, ← E9.out, ← E8.out, ← E4.out, ← E3.out]
          exact nd_text nm cu co
        show _ ∧ _
        rw [← E15.out, e, ByteArray.size_append]
        exact ⟨rfl, by omega⟩
      have P1 : Hid (-9223372036854775808 ≤ cu ∧ cu ≤ 9223372036854775807) := ⟨by omega, by omega⟩
      have P2 : Hid (-9223372036854775808 ≤ co ∧ co ≤ 9223372036854775807) := ⟨by omega, by omega⟩
      clear hle hnx ht p1 p2 hcs hg hjl
      go_wp2_with fail
      refine inv.wp_region_inv2 (fun _ W => Below (wr.heap.size + 1) (wr.alloc (.cells #[.string nm, .int .i64 cu, .int .i64 co] 51)) W) (DRn wr.heap.size nm t s3 s4 s8 s9 s13 s14 s15 cu co) (by kernel_rfl) (by kernel_rfl) (Below.refl _ _).drew ?steps ?rest
      case steps =>
        refine ⟨fun vs W done hS hD hno hold hcl hme K hK => ?_, fun vs W done hS hD hno hold hcl hme K hK => ?_, fun vs W done hS hD hno hold hcl hme K hK => ?_, fun vs W done hS hD hno hold hcl hme K hK => ?_, fun vs W done hS hD hno hold hcl hme K hK => ?_, fun vs W done hS hD hno hold hcl hme K hK => ?_, fun vs W done hS hD hno hold hcl hme K hK => ?_, fun vs W done hS hD hno hold hcl hme K hK => ?_, fun vs W done hS hD hno hold hcl hme K hK => ?_, fun vs W done hS hD hno hold hcl hme K hK => ?_, fun vs W done hS hD hno hold hcl hme K hK => ?_, fun vs W done hS hD hno hold hcl hme K hK => ?_, fun vs W done hS hD hno hold hcl hme K hK => ?_, fun vs W done hS hD hno hold hcl hme K hK => ?_, fun vs W done hS hD hno hold hcl hme K hK => ?_, fun vs W done hS hD hno hold hcl hme K hK => ?_, fun vs W done hS hD hno hold hcl hme K hK => ?_, trivial⟩
        · simp only [inv.dstsL, inv.putT, Nat.reduceAdd, List.set_cons_zero, List.set_cons_succ]
          have hh : vs 16 = .string t := hold 16 (by decide) (hno 16 (by kernel_rfl))
          rw [hh]
          go_simp
          exact hK _ _ _ (by simp only [hh, inv.dstsL, inv.putT, Nat.reduceAdd, List.set_cons_zero, List.set_cons_succ]; (try rfl)) (hS) (rfl) (fun _ _ _ _ h => h)
        · simp only [inv.dstsL, inv.putT, Nat.reduceAdd, List.set_cons_zero, List.set_cons_succ]
          go_simp
          exact hK _ _ _ (by simp only [inv.dstsL, inv.putT, Nat.reduceAdd, List.set_cons_zero, List.set_cons_succ]; (try rfl)) (hS) (rfl) (fun _ _ _ _ h => h)
        · simp only [inv.dstsL, inv.putT, Nat.reduceAdd, List.set_cons_zero, List.set_cons_succ]
          have h1 : (vs 1) = .pointer (some ⟨wr.heap.size, 0, none⟩) := hD 1 (by kernel_rfl)
          have c0 : W.cell? ⟨wr.heap.size, 0, none⟩ = some (.string nm) := (hS.cell (p := ⟨wr.heap.size, 0, none⟩) (Nat.lt_succ_self _)).trans (by rw [World.cell?_alloc_new]; rfl)
          rw [h1]
          go_simp
          exact hK _ _ _ (by simp only [inv.dstsL, inv.putT, Nat.reduceAdd, List.set_cons_zero, List.set_cons_succ, h1]; (try rfl)) (hS) (rfl) (fun _ _ _ _ h => h)
        · simp only [inv.dstsL, inv.putT, Nat.reduceAdd, List.set_cons_zero, List.set_cons_succ]
          have h2 : (vs 2) = .string nm := hD 2 (by kernel_rfl)
          rw [h2]
          go_simp
          rw [E3.out]
          rw [if_neg (by omega)]
          go_simp
          exact hK _ _ _ (by simp only [inv.dstsL, inv.putT, Nat.reduceAdd, List.set_cons_zero, List.set_cons_succ, h2]; (try rfl)) (hS) (rfl) (fun _ _ _ _ h => h)
        · simp only [inv.dstsL, inv.putT, Nat.reduceAdd, List.set_cons_zero, List.set_cons_succ]
          have h3 : (vs 3) = .string s3 := hD 3 (by kernel_rfl)
          rw [h3]
          go_simp
          rw [E4.out]
          rw [if_neg (by omega)]
          go_simp
          exact hK _ _ _ (by simp only [inv.dstsL, inv.putT, Nat.reduceAdd, List.set_cons_zero, List.set_cons_succ, h3]; (try rfl)) (hS) (rfl) (fun _ _ _ _ h => h)
        · simp only [inv.dstsL, inv.putT, Nat.reduceAdd, List.set_cons_zero, List.set_cons_succ]
          go_simp
          exact hK _ _ _ (by simp only [inv.dstsL, inv.putT, Nat.reduceAdd, List.set_cons_zero, List.set_cons_succ]; (try rfl)) (hS) (rfl) (fun _ _ _ _ h => h)
        · simp only [inv.dstsL, inv.putT, Nat.reduceAdd, List.set_cons_zero, List.set_cons_succ]
          have h5 : (vs 5) = .pointer (some ⟨wr.heap.size, 1, none⟩) := hD 5 (by kernel_rfl)
          have c1 : W.cell? ⟨wr.heap.size, 1, none⟩ = some (.int .i64 cu) := (hS.cell (p := ⟨wr.heap.size, 1, none⟩) (Nat.lt_succ_self _)).trans (by rw [World.cell?_alloc_new]; rfl)
          rw [h5]
          go_simp
          exact hK _ _ _ (by simp only [inv.dstsL, inv.putT, Nat.reduceAdd, List.set_cons_zero, List.set_cons_succ, h5]; (try rfl)) (hS) (rfl) (fun _ _ _ _ h => h)
        · simp only [inv.dstsL, inv.putT, Nat.reduceAdd, List.set_cons_zero, List.set_cons_succ]
          have h6 : (vs 6) = .int .i64 cu := hD 6 (by kernel_rfl)
          rw [h6]
          go_simp
          refine (rtext_any cu W P1.out.1 P1.out.2).mono ?_; rintro e W2 ⟨rfl, b2⟩
          go_wp2_with fail
          exact hK _ _ _ (by simp only [inv.dstsL, inv.putT, Nat.reduceAdd, List.set_cons_zero, List.set_cons_succ, h6]; (try rfl)) (hS.trans (b2.mono (bsz hS))) (rfl) (fun j v _ _ => (DRn.kept b2) j v)
        · simp only [inv.dstsL, inv.putT, Nat.reduceAdd, List.set_cons_zero, List.set_cons_succ]
          have h4 : (vs 4) = .string s4 := hD 4 (by kernel_rfl)
          have h7 : (vs 7) = .string (bs (Lib.itoa cu)) := hD 7 (by kernel_rfl)
          rw [h4, h7]
          go_simp
          rw [E8.out]
          rw [if_neg (by omega)]
          go_simp
          exact hK _ _ _ (by simp only [inv.dstsL, inv.putT, Nat.reduceAdd, List.set_cons_zero, List.set_cons_succ, h4, h7]; (try rfl)) (hS) (rfl) (fun _ _ _ _ h => h)
        · simp only [inv.dstsL, inv.putT, Nat.reduceAdd, List.set_cons_zero, List.set_cons_succ]
          have h8 : (vs 8) = .string s8 := hD 8 (by kernel_rfl)
          rw [h8]
          go_simp
          rw [E9.out]
          rw [if_neg (by omega)]
          go_simp
          exact hK _ _ _ (by simp only [inv.dstsL, inv.putT, Nat.reduceAdd, List.set_cons_zero, List.set_cons_succ, h8]; (try rfl)) (hS) (rfl) (fun _ _ _ _ h => h)
        · simp only [inv.dstsL, inv.putT, Nat.reduceAdd, List.set_cons_zero, List.set_cons_succ]
          go_simp
          exact hK _ _ _ (by simp only [inv.dstsL, inv.putT, Nat.reduceAdd, List.set_cons_zero, List.set_cons_succ]; (try rfl)) (hS) (rfl) (fun _ _ _ _ h => h)
        · simp only [inv.dstsL, inv.putT, Nat.reduceAdd, List.set_cons_zero, List.set_cons_succ]
          have h10 : (vs 10) = .pointer (some ⟨wr.heap.size, 2, none⟩) := hD 10 (by kernel_rfl)
          have c2 : W.cell? ⟨wr.heap.size, 2, none⟩ = some (.int .i64 co) := (hS.cell (p := ⟨wr.heap.size, 2, none⟩) (Nat.lt_succ_self _)).trans (by rw [World.cell?_alloc_new]; rfl)
          rw [h10]
          go_simp
          exact hK _ _ _ (by simp only [inv.dstsL, inv.putT, Nat.reduceAdd, List.set_cons_zero, List.set_cons_succ, h10]; (try rfl)) (hS) (rfl) (fun _ _ _ _ h => h)
        · simp only [inv.dstsL, inv.putT, Nat.reduceAdd, List.set_cons_zero, List.set_cons_succ]
          have h11 : (vs 11) = .int .i64 co := hD 11 (by kernel_rfl)
          rw [h11]
          go_simp
          refine (rtext_any co W P2.out.1 P2.out.2).mono ?_; rintro e W2 ⟨rfl, b2⟩
          go_wp2_with fail
          exact hK _ _ _ (by simp only [inv.dstsL, inv.putT, Nat.reduceAdd, List.set_cons_zero, List.set_cons_succ, h11]; (try rfl)) (hS.trans (b2.mono (bsz hS))) (rfl) (fun j v _ _ => (DRn.kept b2) j v)
        · simp only [inv.dstsL, inv.putT, Nat.reduceAdd, List.set_cons_zero, List.set_cons_succ]
          have h9 : (vs 9) = .string s9 := hD 9 (by kernel_rfl)
          have h12 : (vs 12) = .string (bs (Lib.itoa co)) := hD 12 (by kernel_rfl)
          rw [h9, h12]
          go_simp
          rw [E13.out]
          rw [if_neg (by omega)]
          go_simp
          exact hK _ _ _ (by simp only [inv.dstsL, inv.putT, Nat.reduceAdd, List.set_cons_zero, List.set_cons_succ, h9, h12]; (try rfl)) (hS) (rfl) (fun _ _ _ _ h => h)
        · simp only [inv.dstsL, inv.putT, Nat.reduceAdd, List.set_cons_zero, List.set_cons_succ]
          have h13 : (vs 13) = .string s13 := hD 13 (by kernel_rfl)
          rw [h13]
          go_simp
          rw [E14.out]
          rw [if_neg (by omega)]
          go_simp
          exact hK _ _ _ (by simp only [inv.dstsL, inv.putT, Nat.reduceAdd, List.set_cons_zero, List.set_cons_succ, h13]; (try rfl)) (hS) (rfl) (fun _ _ _ _ h => h)
        · simp only [inv.dstsL, inv.putT, Nat.reduceAdd, List.set_cons_zero, List.set_cons_succ]
          have h0 : (vs 0) = .string t := hD 0 (by kernel_rfl)
          have h14 : (vs 14) = .string s14 := hD 14 (by kernel_rfl)
          rw [h0, h14]
          go_simp
          rw [E15.out]
          rw [if_neg (by omega)]
          go_simp
          exact hK _ _ _ (by simp only [inv.dstsL, inv.putT, Nat.reduceAdd, List.set_cons_zero, List.set_cons_succ, h0, h14]; (try rfl)) (hS) (rfl) (fun _ _ _ _ h => h)
        · simp only [inv.dstsL, inv.putT, Nat.reduceAdd, List.set_cons_zero, List.set_cons_succ]
          have h15 : (vs 15) = .string s15 := hD 15 (by kernel_rfl)
          rw [h15]
          go_simp
          exact hK _ _ _ (by simp only [inv.dstsL, inv.putT, Nat.reduceAdd, List.set_cons_zero, List.set_cons_succ, h15]; (try rfl)) (hS) (rfl) (fun _ _ _ _ h => h)
      case rest =>
        intro vs W done hdone hS hD
        have h16 : (vs 16) = .string s15 := hD 16 (by decide)
        simp only [inv.dstsL, inv.putT, Nat.reduceAdd, List.set_cons_zero, List.set_cons_succ]
        rw [h16]
        have B2 : Hid (Below (w.heap.size + 1) _ W) := (bel.out.alloc (by have := bel.out.size; simpa using this) _).trans (hS.mono (by have := bel.out.size; simp at this ⊢; omega))
        generalize vs 0 = y0, vs 1 = y1, vs 2 = y2, vs 3 = y3, vs 4 = y4, vs 5 = y5, vs 6 = y6, vs 7 = y7, vs 8 = y8, vs 9 = y9, vs 10 = y10, vs 11 = y11, vs 12 = y12, vs 13 = y13, vs 14 = y14, vs 15 = y15, vs 16 = y16 at *
        clear hS hD hdone h16
        go_wp2
        go_roundw
        case rel => exact ⟨j + 1, s15, by omega, by go_num, rfl, SX.out.2, by show _ = _; rw [SX.out.1]; exact HX.out, B2⟩
        case measure => simp [intOf]; omega
    · obtain rfl : N = j := by omega
      have ht2 : Hid (t = bs (tx (ns.map ndW ++ (ds.take 0).map (dvW ns)))) := by
        show _ = _
        rw [ht.out, ← LN.out, List.take_length, List.take_zero, List.map_nil, List.append_nil]
      clear ht
      go_wp2_with fail
      go_loopw [5, 8] (fun tv iv wr => ∃ (j : Nat) (t : ByteArray), j ≤ M ∧ iv = .int .i64 j ∧ tv = .string t ∧ t.size ≤ 133 * N + 133 * j ∧ Hid (t = bs (tx (ns.map ndW ++ (ds.take j).map (dvW ns)))) ∧ Hid (Below (w.heap.size + 1) (w.alloc (.cells #[.slice a N c, .slice b M d] 26)) wr)) (fun _ i _ => M - (intOf i).toNat)
      case atStart => exact ⟨0, _, Nat.zero_le _, rfl, rfl, by omega, ht2, bel⟩
      case round =>
        clear q1 q2 q3 ht2 bel BL htz
        obtain ⟨i, u, hi, rfl, rfl, htz, ht, bel⟩ := hrel
        obtain ⟨q1, q2, q3⟩ := NT.out.below bel.out (Nat.lt_succ_self _)
        have BL := Lib.hid (BX.out.trans (bel.out.mono (by omega)))
        by_cases him : i < M
        · have hil : i < ds.length := by rw [LD.out]; exact him
          have hni := HN.out _ BL.out
          obtain ⟨p1, p2, p3, p4, p5, p6⟩ := DO.out _ (List.getElem_mem hil)
          have hln := line_size (DL.out i hil)
          have hnx := Lib.hid (fun ln (e : bs (Lib.join (dvW ns ds[i]) [32] ++ [10]) = ln) => (show u ++ ln = bs (tx (ns.map ndW ++ (ds.take (i + 1)).map (dvW ns))) from by
            rw [List.take_succ_eq_append_getElem hil, List.map_append, ← List.append_assoc]; exact tx_line ht.out e))
          obtain ⟨ln, hle⟩ : ∃ z, bs (Lib.join (dvW ns ds[i]) [32] ++ [10]) = z := ⟨_, rfl⟩
          rw [hle] at hln
          have HX := Lib.hid (hnx.out ln hle)
          obtain ⟨g2, o2, rfl, hg2, hcd⟩ := hni.din.some (by omega)
          obtain ⟨g, o, rfl, hg, hcs⟩ := hni.nin.some (by have := p2; omega)
          obtain ⟨d0, d1, d2, d3, d4⟩ := cells_dv hcd i hil
          generalize ds[i] = x at *
          obtain ⟨nm, ki, da, db, co⟩ := x
          unfold dvW at hle
          dsimp only at d0 d1 d2 d3 d4 p1 p2 p3 p4 p5 hle
          obtain ⟨k, rfl⟩ : ∃ k : Nat, ki = k := ⟨ki.toNat, by omega⟩
          obtain ⟨A, rfl⟩ : ∃ k : Nat, da = k := ⟨da.toNat, by omega⟩
          have hk6 : k ≤ 6 := by omega
          have hk1 : 1 ≤ k := by omega
          have hAl : A < ns.length := by omega
          have hAN : A < N := by have := LN.out; omega
          obtain ⟨na, hna⟩ : ∃ z, ns[A].nm = z := ⟨_, rfl⟩
          have eA : (ns.getD (A : Int).toNat default).nm = na := by rw [Int.toNat_natCast, List.getD_eq_getElem?_getD, List.getElem?_eq_getElem hAl]; exact hna
          rw [eA] at hle
          have zA : na.size ≤ 1000000 := by rw [← hna]; exact (NO.out _ (List.getElem_mem hAl)).2.2
          have zk : (bs (kw k)).size ≤ 12 := by rw [bs_size]; unfold kw; repeat' split
                                                all_goals decide
          have zo := itoa_bs co (by omega) (by omega)
          have P2 : Hid (-9223372036854775808 ≤ co ∧ co ≤ 9223372036854775807) := ⟨by omega, by omega⟩
          obtain ⟨s4, e4⟩ : ∃ z : ByteArray, bs (kw k) ++ (⟨#[32]⟩ : ByteArray) = z := ⟨_, rfl⟩
          have z4 : s4.size ≤ 20 := by rw [← e4]; simp only [ByteArray.size_append]; have : (⟨#[32]⟩ : ByteArray).size = 1 := rfl; omega
          have E4 := Lib.hid e4
          obtain ⟨s7, e7⟩ : ∃ z : ByteArray, s4 ++ nm = z := ⟨_, rfl⟩
          have z7 : s7.size ≤ 1000030 := by rw [← e7]; simp only [ByteArray.size_append]; omega
          have E7 := Lib.hid e7
          obtain ⟨s8, e8⟩ : ∃ z : ByteArray, s7 ++ (⟨#[32]⟩ : ByteArray) = z := ⟨_, rfl⟩
          have z8 : s8.size ≤ 1000040 := by rw [← e8]; simp only [ByteArray.size_append]; have : (⟨#[32]⟩ : ByteArray).size = 1 := rfl; omega
          have E8 := Lib.hid e8
          obtain ⟨s16, e16⟩ : ∃ z : ByteArray, s8 ++ na = z := ⟨_, rfl⟩
          have z16 : s16.size ≤ 2000060 := by rw [← e16]; simp only [ByteArray.size_append]; omega
          have E16 := Lib.hid e16
          obtain ⟨s17, e17⟩ : ∃ z : ByteArray, u ++ s16 = z := ⟨_, rfl⟩
          have z17 : s17.size ≤ 3000000 := by rw [← e17]; simp only [ByteArray.size_append]; omega
          have E17 := Lib.hid e17
          clear e4 e7 e8 e16 e17
          have hcsW := Lib.hid (fun W (hS : Below (wr.heap.size + 1) (wr.alloc (.cells #[.string nm, .int .i64 (k : Int), .int .i64 (A : Int), .int .i64 db, .int .i64 co] 47)) W) => hcs.below ((below_box wr _).trans (hS.mono (Nat.le_succ _))))
          have DV : Hid (∀ W, Below (wr.heap.size + 1) (wr.alloc (.cells #[.string nm, .int .i64 (k : Int), .int .i64 (A : Int), .int .i64 db, .int .i64 co] 47)) W → DvAt W wr.heap.size ⟨nm, k, A, db, co⟩) := fun W hS => (DvAt.new wr ⟨nm, k, A, db, co⟩ 47).below hS (Nat.lt_succ_self _)
          have NT2 : Hid (∀ W, Below (wr.heap.size + 1) (wr.alloc (.cells #[.string nm, .int .i64 (k : Int), .int .i64 (A : Int), .int .i64 db, .int .i64 co] 47)) W → NtAt W w.heap.size (.slice (some ⟨g, o, none⟩) N c) (.slice (some ⟨g2, o2, none⟩) M d)) := fun W hS => (NtAt.below (show NtAt wr w.heap.size _ _ from ⟨q1, q2, q3⟩) ((below_box wr _).trans (hS.mono (Nat.le_succ _))) (by simpa using q3))
          have CN : Hid (∀ W, Below (wr.heap.size + 1) (wr.alloc (.cells #[.string nm, .int .i64 (k : Int), .int .i64 (A : Int), .int .i64 db, .int .i64 co] 47)) W → W.cell? ⟨g, o + A * 3, none⟩ = some (.string na)) := fun W hS => by rw [← hna]; exact (cells_nd (hcsW.out W hS) A hAl).1
          have HLE := Lib.hid hle
          have P3 := Lib.hid p3
          clear hle hnx ht p1 p2 p4 p6 p3 hg hg2 hcd hni hcs hil hna eA
          go_wp2_with fail
          refine inv.wp_region_inv2 (fun _ W => Below (wr.heap.size + 1) (wr.alloc (.cells #[.string nm, .int .i64 (k : Int), .int .i64 (A : Int), .int .i64 db, .int .i64 co] 47)) W) (DRd w.heap.size wr.heap.size g o N c k A nm na u s4 s7 s8 s16 s17) (by kernel_rfl) (by kernel_rfl) (Below.refl _ _).drew ?steps ?rest
          case steps =>
            refine ⟨fun vs W done hS hD hno hold hcl hme K hK => ?_, fun vs W done hS hD hno hold hcl hme K hK => ?_, fun vs W done hS hD hno hold hcl hme K hK => ?_, fun vs W done hS hD hno hold hcl hme K hK => ?_, fun vs W done hS hD hno hold hcl hme K hK => ?_, fun vs W done hS hD hno hold hcl hme K hK => ?_, fun vs W done hS hD hno hold hcl hme K hK => ?_, fun vs W done hS hD hno hold hcl hme K hK => ?_, fun vs W done hS hD hno hold hcl hme K hK => ?_, fun vs W done hS hD hno hold hcl hme K hK => ?_, fun vs W done hS hD hno hold hcl hme K hK => ?_, fun vs W done hS hD hno hold hcl hme K hK => ?_, fun vs W done hS hD hno hold hcl hme K hK => ?_, fun vs W done hS hD hno hold hcl hme K hK => ?_, fun vs W done hS hD hno hold hcl hme K hK => ?_, fun vs W done hS hD hno hold hcl hme K hK => ?_, fun vs W done hS hD hno hold hcl hme K hK => ?_, fun vs W done hS hD hno hold hcl hme K hK => ?_, fun vs W done hS hD hno hold hcl hme K hK => ?_, trivial⟩
            · simp only [inv.dstsL, inv.putT, Nat.reduceAdd, List.set_cons_zero, List.set_cons_succ]
              have hh : vs 18 = .string u := hold 18 (by decide) (hno 18 (by kernel_rfl))
              rw [hh]
              go_simp
              exact hK _ _ _ (by simp only [hh, inv.dstsL, inv.putT, Nat.reduceAdd, List.set_cons_zero, List.set_cons_succ]; (try rfl)) (hS) (rfl) (fun _ _ _ _ h => h)
            · simp only [inv.dstsL, inv.putT, Nat.reduceAdd, List.set_cons_zero, List.set_cons_succ]
              go_simp
              exact hK _ _ _ (by simp only [inv.dstsL, inv.putT, Nat.reduceAdd, List.set_cons_zero, List.set_cons_succ]; (try rfl)) (hS) (rfl) (fun _ _ _ _ h => h)
            · simp only [inv.dstsL, inv.putT, Nat.reduceAdd, List.set_cons_zero, List.set_cons_succ]
              have h1 : (vs 1) = .pointer (some ⟨wr.heap.size, 1, none⟩) := hD 1 (by kernel_rfl)
              have c0 := (DV.out W hS).2.1
              rw [h1]
              go_simp
              exact hK _ _ _ (by simp only [inv.dstsL, inv.putT, Nat.reduceAdd, List.set_cons_zero, List.set_cons_succ, h1]; (try rfl)) (hS) (rfl) (fun _ _ _ _ h => h)
            · simp only [inv.dstsL, inv.putT, Nat.reduceAdd, List.set_cons_zero, List.set_cons_succ]
              have h2 : (vs 2) = .int .i64 (k : Int) := hD 2 (by kernel_rfl)
              rw [h2]
              go_simp
              refine (rword_is k hk6 W).mono ?_; rintro e W2 ⟨rfl, b2⟩
              go_wp2_with fail
              exact hK _ _ _ (by simp only [inv.dstsL, inv.putT, Nat.reduceAdd, List.set_cons_zero, List.set_cons_succ, h2]; (try rfl)) (hS.trans (b2.mono (bsz hS))) (rfl) (fun j v _ _ => (DRd.kept b2) j v)
            · simp only [inv.dstsL, inv.putT, Nat.reduceAdd, List.set_cons_zero, List.set_cons_succ]
              have h3 : (vs 3) = .string (bs (kw k)) := hD 3 (by kernel_rfl)
              rw [h3]
              go_simp
              rw [E4.out]
              rw [if_neg (by omega)]
              go_simp
              exact hK _ _ _ (by simp only [inv.dstsL, inv.putT, Nat.reduceAdd, List.set_cons_zero, List.set_cons_succ, h3]; (try rfl)) (hS) (rfl) (fun _ _ _ _ h => h)
            · simp only [inv.dstsL, inv.putT, Nat.reduceAdd, List.set_cons_zero, List.set_cons_succ]
              go_simp
              exact hK _ _ _ (by simp only [inv.dstsL, inv.putT, Nat.reduceAdd, List.set_cons_zero, List.set_cons_succ]; (try rfl)) (hS) (rfl) (fun _ _ _ _ h => h)
            · simp only [inv.dstsL, inv.putT, Nat.reduceAdd, List.set_cons_zero, List.set_cons_succ]
              have h5 : (vs 5) = .pointer (some ⟨wr.heap.size, 0, none⟩) := hD 5 (by kernel_rfl)
              have c0 := (DV.out W hS).1
              rw [h5]
              go_simp
              exact hK _ _ _ (by simp only [inv.dstsL, inv.putT, Nat.reduceAdd, List.set_cons_zero, List.set_cons_succ, h5]; (try rfl)) (hS) (rfl) (fun _ _ _ _ h => h)
            · simp only [inv.dstsL, inv.putT, Nat.reduceAdd, List.set_cons_zero, List.set_cons_succ]
              have h4 : (vs 4) = .string s4 := hD 4 (by kernel_rfl)
              have h6 : (vs 6) = .string nm := hD 6 (by kernel_rfl)
              rw [h4, h6]
              go_simp
              rw [E7.out]
              rw [if_neg (by omega)]
              go_simp
              exact hK _ _ _ (by simp only [inv.dstsL, inv.putT, Nat.reduceAdd, List.set_cons_zero, List.set_cons_succ, h4, h6]; (try rfl)) (hS) (rfl) (fun _ _ _ _ h => h)
            · simp only [inv.dstsL, inv.putT, Nat.reduceAdd, List.set_cons_zero, List.set_cons_succ]
              have h7 : (vs 7) = .string s7 := hD 7 (by kernel_rfl)
              rw [h7]
              go_simp
              rw [E8.out]
              rw [if_neg (by omega)]
              go_simp
              exact hK _ _ _ (by simp only [inv.dstsL, inv.putT, Nat.reduceAdd, List.set_cons_zero, List.set_cons_succ, h7]; (try rfl)) (hS) (rfl) (fun _ _ _ _ h => h)
            · simp only [inv.dstsL, inv.putT, Nat.reduceAdd, List.set_cons_zero, List.set_cons_succ]
              go_simp
              exact hK _ _ _ (by simp only [inv.dstsL, inv.putT, Nat.reduceAdd, List.set_cons_zero, List.set_cons_succ]; (try rfl)) (hS) (rfl) (fun _ _ _ _ h => h)
            · simp only [inv.dstsL, inv.putT, Nat.reduceAdd, List.set_cons_zero, List.set_cons_succ]
              have h9 : (vs 9) = .pointer (some ⟨w.heap.size, 0, none⟩) := hD 9 (by kernel_rfl)
              have c0 := (NT2.out W hS).1
              rw [h9]
              go_simp
              exact hK _ _ _ (by simp only [inv.dstsL, inv.putT, Nat.reduceAdd, List.set_cons_zero, List.set_cons_succ, h9]; (try rfl)) (hS) (rfl) (fun _ _ _ _ h => h)
            · simp only [inv.dstsL, inv.putT, Nat.reduceAdd, List.set_cons_zero, List.set_cons_succ]
              go_simp
              exact hK _ _ _ (by simp only [inv.dstsL, inv.putT, Nat.reduceAdd, List.set_cons_zero, List.set_cons_succ]; (try rfl)) (hS) (rfl) (fun _ _ _ _ h => h)
            · simp only [inv.dstsL, inv.putT, Nat.reduceAdd, List.set_cons_zero, List.set_cons_succ]
              have h11 : (vs 11) = .pointer (some ⟨wr.heap.size, 2, none⟩) := hD 11 (by kernel_rfl)
              have c0 := (DV.out W hS).2.2.1
              rw [h11]
              go_simp
              exact hK _ _ _ (by simp only [inv.dstsL, inv.putT, Nat.reduceAdd, List.set_cons_zero, List.set_cons_succ, h11]; (try rfl)) (hS) (rfl) (fun _ _ _ _ h => h)
            · simp only [inv.dstsL, inv.putT, Nat.reduceAdd, List.set_cons_zero, List.set_cons_succ]
              have h10 : (vs 10) = .slice (some ⟨g, o, none⟩) N c := hD 10 (by kernel_rfl)
              have h12 : (vs 12) = .int .i64 (A : Int) := hD 12 (by kernel_rfl)
              rw [h10, h12]
              go_simp
              exact hK _ _ _ (by simp only [inv.dstsL, inv.putT, Nat.reduceAdd, List.set_cons_zero, List.set_cons_succ, h10, h12]; (try rfl)) (hS) (rfl) (fun _ _ _ _ h => h)
            · simp only [inv.dstsL, inv.putT, Nat.reduceAdd, List.set_cons_zero, List.set_cons_succ]
              have h13 : (vs 13) = .pointer (some ⟨g, o + A * 3, none⟩) := hD 13 (by kernel_rfl)
              rw [h13]
              go_simp
              exact hK _ _ _ (by simp only [inv.dstsL, inv.putT, Nat.reduceAdd, List.set_cons_zero, List.set_cons_succ, h13]; (try rfl)) (hS) (rfl) (fun _ _ _ _ h => h)
            · simp only [inv.dstsL, inv.putT, Nat.reduceAdd, List.set_cons_zero, List.set_cons_succ]
              have h14 : (vs 14) = .pointer (some ⟨g, o + A * 3, none⟩) := hD 14 (by kernel_rfl)
              have c0 := CN.out W hS
              rw [h14]
              go_simp
              exact hK _ _ _ (by simp only [inv.dstsL, inv.putT, Nat.reduceAdd, List.set_cons_zero, List.set_cons_succ, h14]; (try rfl)) (hS) (rfl) (fun _ _ _ _ h => h)
            · simp only [inv.dstsL, inv.putT, Nat.reduceAdd, List.set_cons_zero, List.set_cons_succ]
              have h8 : (vs 8) = .string s8 := hD 8 (by kernel_rfl)
              have h15 : (vs 15) = .string na := hD 15 (by kernel_rfl)
              rw [h8, h15]
              go_simp
              rw [E16.out]
              rw [if_neg (by omega)]
              go_simp
              exact hK _ _ _ (by simp only [inv.dstsL, inv.putT, Nat.reduceAdd, List.set_cons_zero, List.set_cons_succ, h8, h15]; (try rfl)) (hS) (rfl) (fun _ _ _ _ h => h)
            · simp only [inv.dstsL, inv.putT, Nat.reduceAdd, List.set_cons_zero, List.set_cons_succ]
              have h0 : (vs 0) = .string u := hD 0 (by kernel_rfl)
              have h16 : (vs 16) = .string s16 := hD 16 (by kernel_rfl)
              rw [h0, h16]
              go_simp
              rw [E17.out]
              rw [if_neg (by omega)]
              go_simp
              exact hK _ _ _ (by simp only [inv.dstsL, inv.putT, Nat.reduceAdd, List.set_cons_zero, List.set_cons_succ, h0, h16]; (try rfl)) (hS) (rfl) (fun _ _ _ _ h => h)
            · simp only [inv.dstsL, inv.putT, Nat.reduceAdd, List.set_cons_zero, List.set_cons_succ]
              have h17 : (vs 17) = .string s17 := hD 17 (by kernel_rfl)
              rw [h17]
              go_simp
              exact hK _ _ _ (by simp only [inv.dstsL, inv.putT, Nat.reduceAdd, List.set_cons_zero, List.set_cons_succ, h17]; (try rfl)) (hS) (rfl) (fun _ _ _ _ h => h)
          case rest =>
            intro vs W done hdone hS hD
            have h18 : (vs 18) = .string s17 := hD 18 (by decide)
            simp only [inv.dstsL, inv.putT, Nat.reduceAdd, List.set_cons_zero, List.set_cons_succ]
            rw [h18]
            have BV := Lib.hid hS
            obtain ⟨e0, e1, e2, e3, e4, -⟩ := DV.out W hS
            obtain ⟨n0, n1, -⟩ := NT2.out W hS
            have B2 : Hid (Below (w.heap.size + 1) _ W) := (bel.out.alloc (by have := bel.out.size; simpa using this) _).trans (hS.mono (by have := bel.out.size; simp at this ⊢; omega))
            have hwW := bsz hS
            generalize vs 0 = y0, vs 1 = y1, vs 2 = y2, vs 3 = y3, vs 4 = y4, vs 5 = y5, vs 6 = y6, vs 7 = y7, vs 8 = y8, vs 9 = y9, vs 10 = y10, vs 11 = y11, vs 12 = y12, vs 13 = y13, vs 14 = y14, vs 15 = y15, vs 16 = y16, vs 17 = y17, vs 18 = y18 at *
            clear hS hD hdone h18 q1 q2 d0 d1 d2 d3 d4
            have RT := Lib.hid (rtext_any co W P2.out.1 P2.out.2)
            have szc : (⟨#[32, 99, 111, 109, 112, 97, 110, 121, 32]⟩ : ByteArray).size = 9 := rfl
            by_cases hj : k ≤ 3
            · have JO := Lib.hid (rjoins_is (k : Int) true (decide_eq_true (by have := P3; omega)) W)
              obtain ⟨b0, b1⟩ := P3.out (by omega)
              obtain ⟨B, rfl⟩ : ∃ z : Nat, db = z := ⟨db.toNat, by omega⟩
              have hBl : B < ns.length := by omega
              have hBN : B < N := by have := LN.out; omega
              obtain ⟨nb, hnb⟩ : ∃ z, ns[B].nm = z := ⟨_, rfl⟩
              have eB : (ns.getD (B : Int).toNat default).nm = nb := by rw [Int.toNat_natCast, List.getD_eq_getElem?_getD, List.getElem?_eq_getElem hBl]; exact hnb
              have zB : nb.size ≤ 1000000 := by rw [← hnb]; exact (NO.out _ (List.getElem_mem hBl)).2.2
              have cB : W.cell? ⟨g, o + B * 3, none⟩ = some (.string nb) := by rw [← hnb]; exact (cells_nd (hcsW.out W BV.out) B hBl).1
              have LE2 : Hid (bs (Lib.join [kw (k : Int), nm.data.toList, na.data.toList, nb.data.toList, wCom, Lib.itoa co] [32] ++ [10]) = ln) := by
                have := HLE.out
                rw [if_pos (by omega), eB] at this
                exact this
              have SX : Hid ((s17 ++ ((⟨#[32]⟩ : ByteArray) ++ nb)) ++ (((⟨#[32, 99, 111, 109, 112, 97, 110, 121, 32]⟩ : ByteArray) ++ bs (Lib.itoa co)) ++ (⟨#[10]⟩ : ByteArray)) = u ++ ln) := by
                show _ = _
                rw [← LE2.out, ← E17.out, ← E16.out, ← E8.out, ← E7.out, ← E4.out]
                exact dv_text4 _ nm na nb u co
              clear eB hnb hBl
              go_wp2_with fail
              refine JO.out.mono ?_; rintro e9 w9 ⟨rfl, rfl⟩
              go_wp2_with fail
              refine RT.out.mono ?_; rintro e9 w9 ⟨rfl, b9⟩
              have B9 : Hid (Below (w.heap.size + 1) _ w9) := B2.out.trans (b9.mono (by have := B2.out.size; simpa using this))
              clear b9 cB e0 e1 e2 e3 e4 n0 n1
              go_wp2
              go_roundw
              case rel => exact ⟨i + 1, _, by omega, by go_num, rfl, by rw [SX.out, ByteArray.size_append]; omega, by show _ = _; rw [SX.out]; exact HX.out, B9⟩
              case measure => simp [intOf]; omega
            · have JO := Lib.hid (rjoins_is (k : Int) false (decide_eq_false (by omega)) W)
              have LE2 : Hid (bs (Lib.join [kw (k : Int), nm.data.toList, na.data.toList, wCom, Lib.itoa co] [32] ++ [10]) = ln) := by
                have := HLE.out
                rw [if_neg (by omega)] at this
                exact this
              have SX : Hid (s17 ++ (((⟨#[32, 99, 111, 109, 112, 97, 110, 121, 32]⟩ : ByteArray) ++ bs (Lib.itoa co)) ++ (⟨#[10]⟩ : ByteArray)) = u ++ ln) := by
                show _ = _
                rw [← LE2.out, ← E17.out, ← E16.out, ← E8.out, ← E7.out, ← E4.out]
                exact dv_text3 _ nm na u co
              go_wp2_with fail
              refine JO.out.mono ?_; rintro e9 w9 ⟨rfl, rfl⟩
              go_wp2_with fail
              refine RT.out.mono ?_; rintro e9 w9 ⟨rfl, b9⟩
              have B9 : Hid (Below (w.heap.size + 1) _ w9) := B2.out.trans (b9.mono (by have := B2.out.size; simpa using this))
              clear b9 e0 e1 e2 e3 e4 n0 n1
              go_wp2
              go_roundw
              case rel => exact ⟨i + 1, _, by omega, by go_num, rfl, by rw [SX.out, ByteArray.size_append]; omega, by show _ = _; rw [SX.out]; exact HX.out, B9⟩
              case measure => simp [intOf]; omega
        · obtain rfl : M = i := by omega
          have HT : Hid (u = bs (printT ns ds)) := by
            show _ = _
            rw [ht.out, ← LD.out, List.take_length]; rfl
          clear ht
          go_wp2
          go_ret2
          exact ⟨by rw [← HT.out]; rfl, BL.out⟩
set_option maxRecDepth 100000 in
set_option maxHeartbeats 1000000 in
theorem rprint_bad (a b : Option Addr) (N c M d : Nat) (ns : List Nd) (ds : List Dv) (r : Int) (w : World) (h : NetIn w a b N c M d ns ds) (hc : chk ns ds = r) (hr : r ≠ 0) :
    Calls Tryd.prog 12 #[.agg #[.slice a N c, .slice b M d]] w fun e w' => e = .returned (.tuple #[.string (bs []), .int .i64 r]) ∧ Below w.heap.size w w' := by
  have bx := below_box w (.cells #[.slice a N c, .slice b M d] 26)
  have CK := Lib.hid (rcheck_is a b N c M d ns ds r _ (h.below bx) hc)
  have T := bne_t hr
  have BX := Lib.hid bx
  clear h bx hr hc
  go_enter Tryd.func12, Tryd.ntmps12
  go_wp2_with fail
  refine CK.out.mono ?_; rintro e w1 ⟨rfl, b1⟩
  have B1 : Hid (Below w.heap.size w w1) := BX.out.trans (b1.mono BX.out.size)
  clear b1
  go_wp2
  go_ret2
  exact ⟨rfl, B1.out⟩
theorem rprint_is (a b : Option Addr) (N c M d : Nat) (ns : List Nd) (ds : List Dv) (w : World) (h : NetIn w a b N c M d ns ds) :
    Calls Tryd.prog 12 #[.agg #[.slice a N c, .slice b M d]] w fun e w' => e = .returned (.tuple #[.string (bs (prT ns ds)), .int .i64 (chk ns ds)]) ∧ Below w.heap.size w w' := by
  unfold prT
  by_cases hc : chk ns ds = 0
  · rw [if_pos hc, hc]; exact rprint_good a b N c M d ns ds w h hc
  · rw [if_neg hc]; exact rprint_bad a b N c M d ns ds _ w h rfl hc
end Go.Proofs.YtdgllaiejhnjmaaDoor.mod
