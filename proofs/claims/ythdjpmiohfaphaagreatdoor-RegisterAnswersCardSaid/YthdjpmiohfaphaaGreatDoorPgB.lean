/- The walk of layer 5's program: Check. It computes what the plain facts say. Condition: skills are numbers of 64 bits. -/
import Derived.Test.YthdjpmiohfaphaaGreatDoorPgA
namespace Go.Proofs.YthdjpmiohfaphaaGreatDoor.reg
open Go.RowKit lex aggs kit net

/-- all skills are numbers of 64 bits -/
def SkI (ps : List Pn) : Prop := ∀ x ∈ ps, I64 x.sk
theorem SkI.of_ok {ps : List Pn} (h : Ok ps) : SkI ps := fun x hx => by
  obtain ⟨-, ⟨-, s0, s1⟩, -⟩ := pnE_zero.1 (h.all x hx)
  exact ⟨by omega, by omega⟩
theorem I64.of_ok {p : Pn} (h : pnE p = 0) : I64 p.sk := by
  obtain ⟨-, ⟨-, s0, s1⟩, -⟩ := pnE_zero.1 h
  exact ⟨by omega, by omega⟩
set_option maxRecDepth 100000 in
set_option maxHeartbeats 8000000 in
theorem check_is (a : Option Addr) (N c : Nat) (ps : List Pn) (r : Int) (w : World) (h : RegIn w a N c ps) (hcl : HasClasses w) (hw : SkI ps) (hr : chkP ps = r) :
    Calls Tryz.prog 10 #[.agg #[.slice a N c]] w fun e w' => e = .returned (.int .i64 r) ∧ Below w.heap.size w w' := by
  have bx := Lib.hid (below_box w (.cells #[.slice a N c] 25))
  have NT := Lib.hid (OneAt.new w (.slice a N c) 25)
  have HN := Lib.hid (fun wr (bel : Below w.heap.size w wr) => h.below bel)
  have HC := Lib.hid (fun wr (bel : Below w.heap.size w wr) => hcl.below bel)
  have n1 := h.ncap
  have n2 := h.nmax
  unfold maxLen at n2
  have hn := Lib.hid h.len
  have hft := Lib.hid h.fit
  have hwd := Lib.hid hw
  unfold chkP at hr
  rw [h.len] at hr
  clear h hcl hw
  by_cases hbig : 64 < N
  · rw [if_pos hbig] at hr
    subst hr
    have T1 : decide ((64 : Int) < (N : Int)) = true := decide_eq_true (by omega)
    go_enter Tryz.func10, Tryz.ntmps10
    go_wp2
    go_ret
    exact ⟨rfl, bx.out⟩
  · rw [if_neg hbig] at hr
    have HR := Lib.hid hr
    have T1 : decide ((64 : Int) < (N : Int)) = false := decide_eq_false (by omega)
    clear hr
    go_enter Tryz.func10, Tryz.ntmps10
    go_wp2_with fail
    clear T1
    go_loopw [13] (fun i wr => ∃ j : Nat, j ≤ N ∧ i = .int .i64 j ∧ Hid (Below (w.heap.size + 1) (w.alloc (.cells #[.slice a N c] 25)) wr) ∧ Hid (∀ i, i < j → prE ps i = 0)) (fun i _ => N - (intOf i).toNat)
    case atStart => exact ⟨0, Nat.zero_le _, rfl, Below.refl _ _, fun i hi => by cases hi⟩
    case round => as_aux_lemma =>
      obtain ⟨j, hj, rfl, bel, hok⟩ := hrel
      obtain ⟨k1, k2⟩ := NT.out.below bel.out (Nat.lt_succ_self _)
      have BL := Lib.hid (bx.out.trans (bel.out.mono (by omega)))
      by_cases hjn : j < N
      · have hjx : j < ps.length := by rw [hn.out]; exact hjn
        obtain ⟨g, o, hae, hg, hc⟩ := (HN.out _ BL.out).rin.some (by omega)
        subst hae
        obtain ⟨c0, c1, c2, c3, c4⟩ := cells_pn hc j hjx
        have CA : Hid (∀ W, Below wr.heap.size wr W → ∀ k (hk : k < ps.length), W.cell? ⟨g, o + k * 5, none⟩ = some (.string ps[k].nm)) := fun W b k hk => by
          rw [b.cell (p := ⟨g, o + k * 5, none⟩) hg]; exact (cells_pn hc k hk).1
        have hsx := hft.out ps[j] (List.getElem_mem hjx)
        have hkx := hwd.out ps[j] (List.getElem_mem hjx)
        obtain ⟨x, hx⟩ : ∃ x, ps[j] = x := ⟨_, rfl⟩
        have hE := prE_at hjx x hx
        rw [hx] at c0 c1 c2 c3 c4 hsx hkx
        have HE := Lib.hid hE
        have hcw := HC.out _ BL.out
        have b5 := below_box wr (.cells #[.string x.nm, .int .i64 x.co, .int .i64 x.sk, .int .i64 x.fr, .int .i64 x.un] 27)
        have FT := Lib.hid (fun q hq => checkPerson_is x q _ (hcw.below b5) hsx hkx hq)
        have PA := Lib.hid (PnAt.new wr x 27)
        have B5 := Lib.hid b5
        obtain ⟨nm, co, sk, fr, un⟩ := x
        dsimp only at c0 c1 c2 c3 c4 hsx B5
        unfold pnV at FT
        dsimp only at FT
        have RET : Hid (∀ E, prE ps j = E → E ≠ 0 → r = E) := fun E he e0 => by
          have hf := fe_hit (f := prE ps) hjn hok.out (by rw [he]; exact e0)
          rw [← HR.out, hf, he]
        obtain ⟨E, hEq⟩ : ∃ E, pnE ⟨nm, co, sk, fr, un⟩ = E := ⟨_, rfl⟩
        have HQ := Lib.hid hEq
        obtain ⟨q0, q1, q2, q3, q4, q5⟩ := PA.out
        dsimp only at q0 q1 q2 q3 q4
        clear hx hE hsx hkx hc hEq hcw b5
        go_wp2_with fail
        refine (FT.out _ HQ.out).mono ?_; rintro e w2 ⟨rfl, b2⟩
        have b2h := Lib.hid (B5.out.trans (b2.mono (by have := B5.out.size; omega)))
        have BL2 := Lib.hid (BL.out.trans (b2h.out.mono BL.out.size))
        have BE2 := Lib.hid (bel.out.trans (b2h.out.mono (by have := bel.out.size; simp at this; omega)))
        obtain ⟨q0, q1, q2, q3, q4, q5⟩ := PA.out.below b2 PA.out.2.2.2.2.2
        dsimp only at q0 q1 q2 q3 q4
        obtain ⟨k1, k2⟩ := (NT.out.below bel.out (Nat.lt_succ_self _)).below b2h.out k2
        clear b2 c0 c1 c2 c3 c4
        by_cases e0 : E = 0
        · subst e0
          by_cases hj0 : 0 < j
          · have T0 : decide ((0 : Int) < (j : Int)) = true := decide_eq_true (by omega)
            have hwj : IntKind.i64.wrap ((j : Int) - 1) = ((j - 1 : Nat) : Int) := by rw [IntKind.wrap_i64]; omega
            obtain ⟨i, rfl⟩ : ∃ i, j = i + 1 := ⟨j - 1, by omega⟩
            have hix : i < ps.length := by omega
            have d1 := CA.out _ b2h.out i hix
            obtain ⟨nm1, hnm1⟩ : ∃ z, ps[i].nm = z := ⟨_, rfl⟩
            rw [hnm1] at d1
            rw [show i + 1 - 1 = i from rfl] at hwj
            have hin : (i : Int) < (N : Int) := by omega
            cases hlt : lt nm1 nm with
            | true =>
              have TL : (Go.Op.bytesLess nm.toList nm1.toList || nm.toList == nm1.toList) = false := by rw [le_is, hlt]; rfl
              have hnext : Hid (∀ k, k < i + 1 + 1 → prE ps k = 0) := fun k hk => by
                by_cases e1 : k = i + 1
                · subst e1
                  rw [HE.out, HQ.out, if_neg (by simp)]
                  rw [if_neg]
                  rintro ⟨-, q⟩
                  rw [show i + 1 - 1 = i from rfl, List.getD_eq_getElem?_getD, List.getElem?_eq_getElem hix, Option.getD_some, hnm1] at q
                  rw [hlt] at q; cases q
                · exact hok.out k (by omega)
              clear hlt hnm1 hok
              go_wp2
              go_quiet (fail)
              go_wp2
              go_roundw
              case rel => exact ⟨i + 1 + 1, by omega, by go_num, below_drewN BE2.out _, hnext⟩
              case measure => simp [intOf]; omega
            | false =>
              have TL : (Go.Op.bytesLess nm.toList nm1.toList || nm.toList == nm1.toList) = true := by rw [le_is, hlt]; rfl
              have hr4 : r = 4 := RET.out 4 (by
                rw [HE.out, HQ.out, if_neg (by simp), if_pos]
                refine ⟨by omega, ?_⟩
                rw [show i + 1 - 1 = i from rfl, List.getD_eq_getElem?_getD, List.getElem?_eq_getElem hix, Option.getD_some, hnm1]
                exact hlt) (by decide)
              subst hr4
              clear hlt hnm1 hok
              go_wp2
              go_quiet (fail)
              go_wp2
              go_ret
              exact ⟨rfl, below_drewN BL2.out _⟩
          · obtain rfl : j = 0 := by omega
            have hnext : Hid (∀ k, k < 1 → prE ps k = 0) := fun k hk => by
              obtain rfl : k = 0 := by omega
              rw [HE.out, HQ.out, if_neg (by simp), if_neg (by omega)]
            clear hok
            go_wp2
            go_quiet (fail)
            go_wp2
            go_roundw
            case rel => exact ⟨1, by omega, by go_num, below_drewN BE2.out _, hnext⟩
            case measure => simp [intOf]; omega
        · have TE : (E == 0) = false := beq_eq_false_iff_ne.2 e0
          have hrE : r = E := RET.out E (by rw [HE.out, HQ.out, if_pos e0]) e0
          subst hrE
          clear e0
          go_wp2
          go_ret
          exact ⟨rfl, BL2.out⟩
      · obtain rfl : j = N := by omega
        have hr0 : r = 0 := by rw [← HR.out]; exact fe_ok hok.out
        subst hr0
        go_wp2
        go_ret
        exact ⟨rfl, BL.out⟩
end Go.Proofs.YthdjpmiohfaphaaGreatDoor.reg
