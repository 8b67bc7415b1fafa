/- For every n LexemeLong returns true: a text may have 65536 bytes and no more, and a name 12. Condition: the listed tables hold what the program's text lays (the card ties that). -/
import Derived.Test.YtoeadafgokdacaaDoorLexB
import Derived.Test.YtoeadafgokdacaaDoorLexJ
import Derived.Test.YtoeadafgokdacaaDoorBytes
namespace Go.Proofs.YtoeadafgokdacaaDoor.lex
open Go.RowKit strs

/-- the first k bytes are 'a', the others 0 -/
def fill (k N : Nat) : List UInt8 := List.replicate k 97 ++ List.replicate (N - k) 0
theorem fill_length {k N : Nat} (h : k ≤ N) : (fill k N).length = N := by simp [fill]; omega
theorem fill_set {k N : Nat} (h : k < N) : (fill k N).set k 97 = fill (k + 1) N := by
  obtain ⟨m, rfl⟩ : ∃ m, N = k + 1 + m := ⟨N - k - 1, by omega⟩
  unfold fill
  rw [show k + 1 + m - k = m + 1 from by omega, show k + 1 + m - (k + 1) = m from by omega, List.replicate_succ, List.set_append_right _ _ (by simp)]
  simp only [List.length_replicate, Nat.sub_self, List.set_cons_zero]
  rw [List.replicate_succ', List.append_assoc]; rfl
theorem fill_zero (N : Nat) : (fill 0 N) = List.replicate N 0 := by simp [fill]
def longText (N : Nat) : List UInt8 := List.replicate (N - 1) 97 ++ [10]
theorem fill_end {N : Nat} (h : 1 ≤ N) : (fill N N).set (N - 1) 10 = longText N := by
  obtain ⟨m, rfl⟩ : ∃ m, N = m + 1 := ⟨N - 1, by omega⟩
  unfold fill longText
  simp only [Nat.sub_self, List.replicate_zero, List.append_nil, Nat.add_sub_cancel]
  rw [List.replicate_succ', List.set_append_right _ _ (by simp)]; simp
theorem longText_length {N : Nat} (h : 1 ≤ N) : (longText N).length = N := by simp [longText]; omega
theorem plain_a (m : Nat) : Plain (List.replicate m 97) := by
  intro c hc; rw [(List.mem_replicate.1 hc).2]; rfl
theorem lines_long {N : Nat} (h : 1 ≤ N) (h1 : N ≤ 65536) : lines (longText N) = some [List.replicate (N - 1) 97] := by
  have e : longText N = textOf [List.replicate (N - 1) 97] := by simp [longText, textOf]
  rw [e]
  refine lines_text _ (fun x hx => ?_) (by rw [← e, longText_length h]; exact h1)
  simp only [List.mem_singleton] at hx; subst hx; exact plain_a _
theorem lines_too_long {N : Nat} (h : 1 ≤ N) (h1 : 65536 < N) : lines (longText N) = none := by
  unfold lines; rw [if_pos (by rw [longText_length h]; exact h1)]
theorem name_a {k : Nat} (h : 1 ≤ k) : nameB (List.replicate k 97) = decide (k ≤ 12) := by
  by_cases h1 : k ≤ 12
  · rw [decide_eq_true h1]
    refine nameB_yes (by simp; omega) (by simpa using h1) (by rw [List.getElem_replicate]; rfl) (fun j hj => by rw [List.getElem_replicate]; rfl)
  · rw [decide_eq_false h1]
    exact nameB_long (by simp; omega)
theorem longText_take {k N : Nat} (h : k < N) (j : Nat) (hj : j < (List.replicate k (97 : UInt8)).length) (hN : j < (longText N).length) : (longText N)[j] = (List.replicate k (97 : UInt8))[j] := by
  have hj' : j < k := by simpa using hj
  have e : (longText N)[j]? = (List.replicate k (97 : UInt8))[j]? := by
    unfold longText
    rw [List.getElem?_append_left (by simp; omega), List.getElem?_replicate, List.getElem?_replicate, if_pos (by omega), if_pos hj']
  rw [List.getElem?_eq_getElem hN, List.getElem?_eq_getElem hj] at e
  exact Option.some.inj e

theorem name_as (k : Nat) (b : Bool) (hk : 1 ≤ k) (hk2 : k ≤ 100) (hb : decide (k ≤ 12) = b) (w : World) (h : HasClasses w) :
    Calls Tryd.prog 13 #[.string (bs (List.replicate k 97))] w fun e w' => e = .returned (.bool b) ∧ w = w' :=
  name_at _ b w h (by rw [bs_size]; unfold maxLen; simp; omega) (by rw [bs_data, name_a hk]; exact hb)

set_option maxRecDepth 100000 in
set_option maxHeartbeats 1000000 in
theorem long_walk (n : Int) (w : World) (n0 : 0 ≤ n) (n1 : n ≤ 255) (h : Tabs w) :
    Calls Tryd.prog 7 #[.int .u8 n] w fun e w' => e = .returned (.bool true) ∧ Below w.heap.size w w' := by
  have H := Lib.hid h
  clear h
  obtain ⟨i0, hi, hz0, hz1, hz2⟩ := info_parts info5
  obtain ⟨m, hm⟩ : ∃ m : Nat, (m : Int) = n % 3 := ⟨(n % 3).toNat, by omega⟩
  obtain ⟨N, hN⟩ : ∃ N : Nat, (N : Int) = 65535 + n % 3 := ⟨65535 + m, by omega⟩
  have hN0 : 65535 ≤ N := by omega
  have hN1 : N ≤ 65537 := by omega
  have HN := Lib.hid hN
  clear hN hm m
  go_enter Tryd.func7, Tryd.ntmps7
  go_wp2_with (at_make; go_must (refine wpList_make_full _ rfl (.tmp 11) (.tmp 11) 39 rfl w.heap.size 5 i0 (.int .u8 0) 1 Tryd.underlying39 hi hz0 hz1 .i64 .i64 _ _ N rfl rfl (by exact HN.out.symm) (by exact HN.out.symm) (by rw [hz2]; omega) (by unfold maxLen; omega) (Nat.le_refl _) ?_); intro w1 hown hg)
  have b1 : BytesAt w1 w.heap.size (.slice (some ⟨w.heap.size, 0, none⟩) N N) (fill 0 N) := by rw [fill_zero]; exact BytesAt.made hown
  have hb1 : Below w.heap.size w w1 := (Below.refl _ _).grown hg (Nat.le_refl _) (fun k hk => by cases hk)
  clear hown hg
  go_loopw [15] (fun i wr => ∃ k : Nat, k ≤ N ∧ i = .int .i64 k ∧ BytesAt wr w.heap.size (.slice (some ⟨w.heap.size, 0, none⟩) N N) (fill k N) ∧ Below w.heap.size w wr) (fun i _ => N - (intOf i).toNat)
  case atStart => exact ⟨0, Nat.zero_le _, rfl, b1, hb1⟩
  case round =>
    clear b1 hb1
    obtain ⟨k, hk, rfl, hb, hbl⟩ := hrel
    have hfl := fill_length hk
    by_cases hlt : k < N
    · have hcell := hb.cells hfl k (by omega)
      have hfree := hb.free hfl k
      obtain ⟨cc, hcc⟩ : ∃ cc, (fill k N)[k] = cc := ⟨_, rfl⟩
      rw [hcc] at hcell
      have hset := (BytesAt.set hfl hb k 97).1
      rw [fill_set hlt] at hset
      have HSET := Lib.hid hset
      have hbl2 := hbl.setCell (p := ⟨w.heap.size, k, none⟩) (Nat.le_refl _) (.int .u8 97)
      clear hset hb hcc hfl
      go_wp2
      go_roundw
      case rel => exact ⟨k + 1, by omega, by go_num, HSET.out, hbl2⟩
      case measure => simp [intOf]; omega
    · have hkN : k = N := by omega
      subst hkN
      have hcell := hb.cells hfl (k - 1) (by omega)
      have hfree := hb.free hfl (k - 1)
      obtain ⟨cc, hcc⟩ : ∃ cc, (fill k k)[k - 1] = cc := ⟨_, rfl⟩
      rw [hcc] at hcell
      have hset := (BytesAt.set hfl hb (k - 1) 10).1
      rw [fill_end (by omega)] at hset
      have HSET := Lib.hid hset
      have hbl2 := hbl.setCell (p := ⟨w.heap.size, k - 1, none⟩) (Nat.le_refl _) (.int .u8 10)
      clear hset hb hcc hfl
      have hset2 : BytesAt (wr.setCell ⟨w.heap.size, k - 1, none⟩ (.int .u8 10)) w.heap.size (.slice (some ⟨w.heap.size, 0, none⟩) k k) (longText k) := HSET.out
      have kc : (convert 39 9 (.slice (some ⟨w.heap.size, 0, none⟩) k k)).run Tryd.prog (wr.setCell ⟨w.heap.size, k - 1, none⟩ (.int .u8 10)) = .ok (.string (bs (longText k))) (wr.setCell ⟨w.heap.size, k - 1, none⟩ (.int .u8 10)) :=
        conv k (longText_length (by omega)).symm (hset2.cells (longText_length (by omega)))
      have HSET2 := Lib.hid hset2
      clear hset2
      have H1 := Lib.hid (H.out.below hbl2)
      clear hbl HSET
      by_cases hs : k ≤ 65536
      · have tL : decide ((k : Int) ≤ 65536) = true := decide_eq_true (by omega)
        go_wp2_with fail
        refine (lines_bs (longText k) _ (lines_long (by omega) hs) _ H1.out.cls (by rw [longText_length (by omega)]; omega)).mono ?_; rintro e w3 ⟨v, rfl, sv, hb3⟩
        have HS3 := HSET2.out.below hb3
        have H2 := Lib.hid (H1.out.below hb3)
        have hb := hbl2.trans (hb3.mono hbl2.size)
        obtain ⟨av, cv, rfl, -⟩ := sv.length
        clear sv hb3 hbl2 kc hcell hfree
        have kc : (convert 39 9 (.slice (some ⟨w.heap.size, 0, none⟩) (n % 9 + 8).toNat k)).run Tryd.prog w3 = .ok (.string (bs (List.replicate (n % 9 + 8).toNat 97))) w3 :=
          conv _ (by simp) (fun j hj => by
            have hj' : j < (n % 9 + 8).toNat := by simpa using hj
            have hjk : j < (longText k).length := by rw [longText_length (by omega)]; omega
            rw [← longText_take (k := (n % 9 + 8).toNat) (N := k) (by omega) j hj hjk]
            exact HS3.cells (longText_length (by omega)) j hjk)
        clear HS3
        by_cases hk12 : n % 9 + 8 ≤ 12
        · have tk : decide (n % 9 + 8 ≤ 12) = true := decide_eq_true hk12
          go_wp2_with fail
          refine (name_as _ true (by omega) (by omega) (decide_eq_true (by omega)) _ H2.out.cls).mono ?_; rintro e w' ⟨rfl, rfl⟩
          go_wp2_with fail
          refine (awake_any _ H2.out).mono ?_; rintro e w8 ⟨rfl, hb8⟩
          go_wp2
          go_ret
          exact ⟨rfl, hb.trans (hb8.mono hb.size)⟩
        · have tk : decide (n % 9 + 8 ≤ 12) = false := decide_eq_false hk12
          go_wp2_with fail
          refine (name_as _ false (by omega) (by omega) (decide_eq_false (by omega)) _ H2.out.cls).mono ?_; rintro e w' ⟨rfl, rfl⟩
          go_wp2_with fail
          refine (awake_any _ H2.out).mono ?_; rintro e w8 ⟨rfl, hb8⟩
          go_wp2
          go_ret
          exact ⟨rfl, hb.trans (hb8.mono hb.size)⟩
      · have tL : decide ((k : Int) ≤ 65536) = false := decide_eq_false (by omega)
        go_wp2_with fail
        refine (lines_bs (longText k) _ (lines_too_long (by omega) (by omega)) _ H1.out.cls (by rw [longText_length (by omega)]; omega)).mono ?_; rintro e w3 ⟨v, rfl, sv, hb3⟩
        have HS3 := HSET2.out.below hb3
        have H2 := Lib.hid (H1.out.below hb3)
        have hb := hbl2.trans (hb3.mono hbl2.size)
        obtain ⟨av, cv, rfl, -⟩ := sv.length
        clear sv hb3 hbl2 kc hcell hfree
        have kc : (convert 39 9 (.slice (some ⟨w.heap.size, 0, none⟩) (n % 9 + 8).toNat k)).run Tryd.prog w3 = .ok (.string (bs (List.replicate (n % 9 + 8).toNat 97))) w3 :=
          conv _ (by simp) (fun j hj => by
            have hj' : j < (n % 9 + 8).toNat := by simpa using hj
            have hjk : j < (longText k).length := by rw [longText_length (by omega)]; omega
            rw [← longText_take (k := (n % 9 + 8).toNat) (N := k) (by omega) j hj hjk]
            exact HS3.cells (longText_length (by omega)) j hjk)
        clear HS3
        by_cases hk12 : n % 9 + 8 ≤ 12
        · have tk : decide (n % 9 + 8 ≤ 12) = true := decide_eq_true hk12
          go_wp2_with fail
          refine (name_as _ true (by omega) (by omega) (decide_eq_true (by omega)) _ H2.out.cls).mono ?_; rintro e w' ⟨rfl, rfl⟩
          go_wp2_with fail
          refine (awake_any _ H2.out).mono ?_; rintro e w8 ⟨rfl, hb8⟩
          go_wp2
          go_ret
          exact ⟨rfl, hb.trans (hb8.mono hb.size)⟩
        · have tk : decide (n % 9 + 8 ≤ 12) = false := decide_eq_false hk12
          go_wp2_with fail
          refine (name_as _ false (by omega) (by omega) (decide_eq_false (by omega)) _ H2.out.cls).mono ?_; rintro e w' ⟨rfl, rfl⟩
          go_wp2_with fail
          refine (awake_any _ H2.out).mono ?_; rintro e w8 ⟨rfl, hb8⟩
          go_wp2
          go_ret
          exact ⟨rfl, hb.trans (hb8.mono hb.size)⟩
end Go.Proofs.YtoeadafgokdacaaDoor.lex
