/- For every list of numbers LexemeLines returns true: lines that are put together with line feeds are read as they were, and words that are joined likewise. Condition: the listed tables hold what the program's text lays (the card ties that). -/
import Derived.Test.YtoeadafgokdacaaDoorLexB
import Derived.Test.YtoeadafgokdacaaDoorLexJ
import Derived.Test.YtoeadafgokdacaaDoorDeck
import Derived.Test.YtoeadafgokdacaaDoorSame
namespace Go.Proofs.YtoeadafgokdacaaDoor.lex
open Go.RowKit kit deck strs

set_option maxRecDepth 100000 in
set_option maxHeartbeats 2000000 in
theorem lines_walk (a : Option Addr) (len cap : Nat) (zs : List Int) (w : World) (hr : IsRow .i64 w a len cap zs) (h : Tabs w) :
    Calls Tryd.prog 6 #[.slice a len cap] w fun e w' => e = .returned (.bool true) ∧ Below w.heap.size w w' := by
  have hl : len ≤ 9223372036854775807 := by
    rcases hr with ⟨_, h, _⟩ | ⟨_, _, h1, h2, _⟩
    · omega
    · unfold maxLen at h2; omega
  have H := Lib.hid h
  have HR := Lib.hid hr
  clear h hr
  obtain ⟨i0, hi, hz0, hz1, hz2⟩ := info_parts info9
  by_cases h4 : len ≤ 400
  · have t1 : decide ((len : Int) ≤ 400) = true := decide_eq_true (by omega)
    go_enter Tryd.func6, Tryd.ntmps6
    go_wp2_with fail
    refine (few_any _ _ _ _ hl).mono ?_; rintro e w' ⟨rfl, rfl⟩
    go_wp2_with fail
    refine (newg_any _ _ _ _).mono ?_; rintro e w1 ⟨rfl, g1⟩
    go_wp2_with fail
    refine (g1.next HR.out 8 (by omega)).mono ?_; rintro e w2 ⟨r, rfl, r0, r1, g2, -⟩
    clear g1 w1
    obtain ⟨k, rfl⟩ := Int.eq_ofNat_of_zero_le r0
    go_wp2_with fail
    go_loopw [4, 5, 6, 7] (fun v4 v5 t i wr => ∃ (L Ws : List (List UInt8)) (k : Nat), StrsAt wr (w.heap.size + 1) v4 L ∧ StrsAt wr (w.heap.size + 1) v5 Ws ∧ Apart v4 v5 ∧ t = .string (bs (textOf L)) ∧ i = .int .i64 k ∧ k + L.length ≤ 7 ∧ Hid (∀ x ∈ L, Plain x) ∧ wsum Ws ≤ 10 * L.length ∧ Hid (∀ x ∈ Ws, Good x) ∧ (textOf L).length ≤ 6 * L.length ∧ Game w wr w.heap.size a len cap) (fun _ _ _ i _ => (intOf i).toNat)
    case atStart => exact ⟨[], [], k, StrsAt.nil _ _, StrsAt.nil _ _, Apart.nil _, rfl, rfl, by simp; omega, (fun x hx => by cases hx), Nat.zero_le _, (fun x hx => by cases hx), Nat.le_refl _, g2⟩
    case round =>
      clear g2 r1
      obtain ⟨L, Ws, k, s4, s5, hap, rfl, rfl, hk, hL, hW, hG, hT, g⟩ := hrel
      by_cases hpos : 0 < k
      · go_wp2_with fail
        refine (g.next HR.out 6 (by omega)).mono ?_; rintro e w2 ⟨r, rfl, r0, r1, g2, hg2⟩
        obtain ⟨j, rfl⟩ := Int.eq_ofNat_of_zero_le r0
        have s4' := s4.grown hg2 (fun k hk => by cases hk; omega)
        have s5' := s5.grown hg2 (fun k hk => by cases hk; omega)
        clear s4 s5 g hg2
        go_wp2_with fail
        go_loopw [8, 9] (fun t i wr => ∃ (x : List UInt8) (j : Nat), t = .string (bs x) ∧ i = .int .i64 j ∧ x.length + j ≤ 5 ∧ Hid (Plain x) ∧ Game w wr w.heap.size a len cap ∧ StrsAt wr (w.heap.size + 1) u4 L ∧ StrsAt wr (w.heap.size + 1) u5 Ws) (fun _ i _ => (intOf i).toNat)
        case atStart => exact ⟨[], j, rfl, rfl, by simp; omega, (fun x hx => by cases hx), g2, s4', s5'⟩
        case round =>
          clear s4' s5' g2
          obtain ⟨x, j, rfl, rfl, hj, hP, g, s4, s5⟩ := hrel
          have hbx := bs_size x
          by_cases hjp : 0 < j
          · go_wp2_with fail
            refine (g.next HR.out 95 (by omega)).mono ?_; rintro e w3 ⟨r, rfl, r0, r1, g3, hg3⟩
            have s4' := s4.grown hg3 (fun k hk => by cases hk; omega)
            have s5' := s5.grown hg3 (fun k hk => by cases hk; omega)
            clear s4 s5 g hg3
            have kc := fun (w : World) => kit.str1i w (32 + r) (by omega) (by omega)
            go_wp2_with fail
            go_roundw
            case rel => exact ⟨x ++ [UInt8.ofNat (32 + r).toNat], j - 1, congrArg _ (bs_push _ _), congrArg _ (by omega), by simp; omega, plain_push hP r0 (by omega), g3.alloc _, s4'.alloc _, s5'.alloc _⟩
            case measure => simp [intOf]; omega
          · have hj0 : j = 0 := by omega
            subst hj0
            have hbt := bs_size (textOf L)
            go_wp2_with (at_builtin; refine wpList_append_own_at _ rfl (.tmp 43) (.tmp 45) 22 rfl (w.heap.size + 1) 9 i0 (.string ByteArray.empty) 1 16 Tryd.underlying22 hi hz0 hz1 hz2 rfl (by decide) _ _ _ rfl (s4.alloc _) ⟨wr.heap.size, 0, none⟩ 1 1 [.string (bs x)] rfl rfl (cell_one_new _ _ _) (fun x hx => by simp at hx; subst hx; rfl) (by unfold maxLen; omega) (by omega) (by have := g.lt; simp; omega) ?_; intro v' w1 hown' hgrow _ hat)
            have s4' : StrsAt w1 (w.heap.size + 1) v' (L ++ [x]) := StrsAt.push hown'
            have s5' := (s5.alloc _).apart hgrow hap
            have hap' := hap.push (s5.alloc _) hat
            have g3 := (g.alloc _).own (s4.alloc _) (by omega) hgrow
            clear hown' hgrow hat s4 s5 hap g
            have hL' : Hid (∀ y ∈ L ++ [x], Plain y) := by
              intro y hy
              rcases List.mem_append.1 hy with hy | hy
              · exact hL.out y hy
              · simp only [List.mem_singleton] at hy; subst hy; exact hP.out
            have hT' : (textOf (L ++ [x])).length ≤ 6 * (L ++ [x]).length := by rw [textOf_snoc]; simp; omega
            have htx : Hid (bs (textOf L) ++ (bs x ++ ⟨#[10]⟩) = bs (textOf (L ++ [x]))) := by rw [textOf_snoc]; show _ ++ (_ ++ bs [10]) = _; rw [bs_append, bs_append]
            go_wp2_with fail
            refine (words_bs x _ (H.out.below g3.below).cls (by omega)).mono ?_; rintro e w3 ⟨v, rfl, sv, hbw⟩
            have s4 := s4'.below hbw
            have s5 := s5'.below hbw
            have g := g3.by_below hbw
            have hws := words_wsum x
            clear s4' s5' g3 hbw
            by_cases hne : words x = []
            · obtain ⟨av, cv, rfl, -⟩ := sv.length
              rw [hne]
              clear sv hws hne
              go_wp2
              go_roundw
              case rel => exact ⟨L ++ [x], Ws, k - 1, s4, s5, hap', congrArg _ htx.out, congrArg _ (by omega), by simp; omega, hL', by simp; omega, hG, hT', g⟩
              case measure => simp [intOf]; omega
            · rcases sv.shape with ⟨rfl, hnil⟩ | ⟨gw, cw, rfl, _, _, hn, hm, hc⟩
              · exact absurd hnil hne
              · have hpos' : 0 < (words x).length := List.length_pos_iff.2 hne
                have hlw := length_le_wsum (words x)
                have hlW := length_le_wsum Ws
                have hG' : Hid (∀ y ∈ Ws ++ words x, Good y) := by
                  intro y hy
                  rcases List.mem_append.1 hy with hy | hy
                  · exact hG.out y hy
                  · exact words_good x y hy
                have hW' : wsum (Ws ++ words x) ≤ 10 * (L ++ [x]).length := by rw [wsum_append]; simp; omega
                have hnews : ∀ j u, ((words x).map fun l => Value.string (bs l))[j]? = some u → w3.cell? ((⟨gw, 0, none⟩ : Addr).add j) = some u := by
                  intro j u hu
                  rw [List.getElem?_map] at hu
                  obtain ⟨y, hy, rfl⟩ := Option.map_eq_some_iff.1 hu
                  obtain ⟨hj, rfl⟩ := List.getElem?_eq_some_iff.1 hy
                  rw [Go.WideShapes.add_plain, Nat.zero_add]; exact hc j hj
                have h1c : ∀ u ∈ ((words x).map fun l => Value.string (bs l)), u.oneCell' = true := by
                  intro u hu
                  obtain ⟨y, _, rfl⟩ := List.mem_map.1 hu
                  rfl
                clear hc sv hne
                go_wp2_with (at_builtin; go_must (refine wpList_append_own_at _ rfl (.tmp 56) (.tmp 57) 22 rfl (w.heap.size + 1) 9 i0 (.string ByteArray.empty) 1 16 Tryd.underlying22 hi hz0 hz1 hz2 rfl (by decide) _ _ _ rfl s5 ⟨gw, 0, none⟩ (words x).length cw ((words x).map fun l => .string (bs l)) rfl (by simp) hnews h1c (by unfold maxLen; omega) (by omega) (by have := g.lt; omega) ?_); intro v'' w4 hown'' hgrow' _ hat')
                have s5' : StrsAt w4 (w.heap.size + 1) v'' (Ws ++ words x) := StrsAt.push_many hown''
                have s4' := s4.apart hgrow' hap'.symm
                have hap2 := (hap'.symm.push s4 hat').symm
                have g' := g.own s5 (by omega) hgrow'
                go_roundw
                case rel => exact ⟨L ++ [x], Ws ++ words x, k - 1, s4', s5', hap2, congrArg _ htx.out, congrArg _ (by omega), by simp; omega, hL', hW', hG', hT', g'⟩
                case measure => simp [intOf]; omega
      · have hk0 : k = 0 := by omega
        subst hk0
        have hbt := bs_size (textOf L)
        have ht1 := lines_text L hL.out (by omega)
        have HT1 := Lib.hid ht1
        have HJ := Lib.hid (words_join Ws hG.out)
        have hjl := join_length Ws
        clear ht1
        have H1 := Lib.hid (H.out.below g.below)
        go_wp2_with fail
        refine (lines_bs (textOf L) (some L) HT1.out _ H1.out.cls (by omega)).mono ?_; rintro e w1 ⟨va, rfl, sa, hb1⟩
        have s41 := s4.below hb1
        have s51 := s5.below hb1
        have g1 := g.by_below hb1
        have H2 := Lib.hid (H1.out.below hb1)
        clear s4 s5 g hb1
        go_wp2_with fail
        refine (lines_call_more L hL.out (by omega) _ H2.out.cls).mono ?_; rintro e w2 ⟨vb, rfl, sb, hb2⟩
        have s42 := s41.below hb2
        have s52 := s51.below hb2
        have sa2 := sa.below hb2
        have g2 := g1.by_below hb2
        have H3 := Lib.hid (H2.out.below hb2)
        clear s41 s51 sa g1 hb2 sb
        go_wp2_with fail
        refine (lines_call_odd L (by omega) _ H3.out.cls).mono ?_; rintro e w3 ⟨vc, rfl, sc, hb3⟩
        have s43 := s42.below hb3
        have s53 := s52.below hb3
        have sa3 := sa2.below hb3
        have g3 := g2.by_below hb3
        have H4 := Lib.hid (H3.out.below hb3)
        clear s42 s52 sa2 g2 hb3 sc
        go_wp2_with fail
        refine (same_any sa3 s43).mono ?_; rintro e w4 ⟨rfl, hb4⟩
        have s54 := s53.below hb4
        have g4 := g3.by_below hb4
        have H5 := Lib.hid (H4.out.below hb4)
        clear s43 s53 sa3 g3 hb4
        go_wp2_with fail
        refine (join_any s54 (by omega)).mono ?_; rintro e w5 ⟨rfl, hb5⟩
        have s55 := s54.below hb5
        have g5 := g4.by_below hb5
        have H6 := Lib.hid (H5.out.below hb5)
        clear s54 g4 hb5
        go_wp2_with fail
        refine (words_bs (Lib.join Ws [32]) _ H6.out.cls (by omega)).mono ?_; rintro e w6 ⟨vd, rfl, sd, hb6⟩
        rw [HJ.out] at sd
        have s56 := s55.below hb6
        have g6 := g5.by_below hb6
        have H7 := Lib.hid (H6.out.below hb6)
        clear s55 g5 hb6
        go_wp2_with fail
        refine (same_any sd s56).mono ?_; rintro e w7 ⟨rfl, hb7⟩
        have g7 := g6.by_below hb7
        have H8 := Lib.hid (H7.out.below hb7)
        clear s56 g6 hb7 sd
        go_wp2_with fail
        refine (awake_any _ H8.out).mono ?_; rintro e w8 ⟨rfl, hb8⟩
        go_wp2
        go_ret
        exact ⟨rfl, g7.below.trans (hb8.mono g7.below.size)⟩
  · have t1 : decide ((len : Int) ≤ 400) = false := decide_eq_false (by omega)
    go_enter Tryd.func6, Tryd.ntmps6
    go_wp2_with fail
    refine (few_any _ _ _ _ hl).mono ?_; rintro e w' ⟨rfl, rfl⟩
    go_wp2_with fail
    refine (awake_any _ H.out).mono ?_; rintro e w2 ⟨rfl, hb2⟩
    go_wp2
    go_ret
    exact ⟨rfl, hb2⟩
end Go.Proofs.YtoeadafgokdacaaDoor.lex
