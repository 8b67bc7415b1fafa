/- The walks of layer 3: Check of a network. Condition: the table 'classes' holds what its text lays. -/
import Derived.Test.YtoeojhabhnoojaaDoorNetC
namespace Go.Proofs.YtoeojhabhnoojaaDoor.net
open Go.RowKit lex aggs kit
/-- a network that can be read: its two slices, its nodes and devices, and what a machine's numbers ask -/
structure NetIn (w : World) (a b : Option Addr) (N c M d : Nat) (ns : List Nd) (ds : List Dv) : Prop where
  nlen : ns.length = N
  dlen : ds.length = M
  nin : RIn encNd 3 w a ns
  din : RIn encDv 5 w b ds
  nsz : ∀ x ∈ ns, x.nm.size ≤ maxLen
  dfit : ∀ x ∈ ds, Fits x
  ncap : N ≤ c
  nmax : c ≤ maxLen
  dcap : M ≤ d
  dmax : d ≤ maxLen
theorem NetIn.below {w w' : World} {a b : Option Addr} {N c M d : Nat} {ns : List Nd} {ds : List Dv} (h : NetIn w a b N c M d ns ds) (hb : Below w.heap.size w w') : NetIn w' a b N c M d ns ds :=
  { h with nin := h.nin.below hb, din := h.din.below hb }
set_option maxRecDepth 100000 in
set_option maxHeartbeats 2000000 in
theorem check_is (a b : Option Addr) (N c M d : Nat) (ns : List Nd) (ds : List Dv) (r : Int) (w : World) (H : HasClasses w) (h : NetIn w a b N c M d ns ds) (hr : chk ns ds = r) :
    Calls Tryd.prog 67 #[.agg #[.slice a N c, .slice b M d]] w fun e w' => e = .returned (.int .i64 r) ∧ Below w.heap.size w w' := by
  have bx := Lib.hid (below_box w (.cells #[.slice a N c, .slice b M d] 26))
  have NT := Lib.hid (NtAt.new w (.slice a N c) (.slice b M d) 26)
  have HN := Lib.hid (fun wr (bel : Below w.heap.size w wr) => h.below bel)
  have HH := Lib.hid (fun wr (bel : Below w.heap.size w wr) => H.below bel)
  have n1 := h.ncap
  have n2 := h.nmax
  have n3 := h.dcap
  have n4 := h.dmax
  unfold maxLen at n2 n4
  have hn := Lib.hid h.nlen
  have hm := Lib.hid h.dlen
  unfold chk at hr
  rw [h.nlen, h.dlen] at hr
  have HR := Lib.hid hr
  clear hr H h
  by_cases hbig : 32 < N ∨ 64 < M
  · have e : r = 1 := by rw [← HR.out, if_pos hbig]
    subst e
    rcases hbig with h1 | h1
    · go_enter Tryd.func67, Tryd.ntmps67
      go_wp2
      all_goals (first | (exfalso; omega) | (go_ret; exact ⟨rfl, bx.out⟩))
    · go_enter Tryd.func67, Tryd.ntmps67
      go_wp2
      all_goals (first | (exfalso; omega) | (go_ret; exact ⟨rfl, bx.out⟩))
  · have h1 : N ≤ 32 := by omega
    have h2 : M ≤ 64 := by omega
    have HR2 : Hid ((if fe (ndsE ns) N = 0 then fe (dvsE ns ds) M else fe (ndsE ns) N) = r) := by show _ = r; rw [← HR.out, if_neg hbig]
    clear hbig HR
    go_enter Tryd.func67, Tryd.ntmps67
    go_wp2_with fail
    all_goals (try (exfalso; omega))
    go_loopw [20] (fun i wr => ∃ j : Nat, j ≤ N ∧ i = .int .i64 j ∧ Hid (Below (w.heap.size + 1) (w.alloc (.cells #[.slice a N c, .slice b M d] 26)) wr) ∧ Hid (∀ i, i < j → ndsE ns i = 0)) (fun i _ => N - (intOf i).toNat)
    case atStart => exact ⟨0, Nat.zero_le _, rfl, Below.refl _ _, fun i hi => by cases hi⟩
    case round =>
      obtain ⟨j, hj, rfl, bel, hok⟩ := hrel
      obtain ⟨k1, k2, k3⟩ := NT.out.below bel.out (Nat.lt_succ_self _)
      have BL := Lib.hid (bx.out.trans (bel.out.mono (by omega)))
      by_cases hjn : j < N
      · obtain ⟨E, hE⟩ : ∃ E, ndsE ns j = E := ⟨_, rfl⟩
        have HE := Lib.hid hE
        have hne := Lib.hid (HN.out _ BL.out)
        have CN := Lib.hid (checkNode_is a N c j (.slice b M d) ns E _ (HH.out _ BL.out) hne.out.nlen hne.out.nin hne.out.nsz h1 hjn n1 n2 hE)
        clear hE hne
        by_cases e0 : E = 0
        · subst e0
          have hnext : Hid (∀ i, i < j + 1 → ndsE ns i = 0) := fun i hi => by
            by_cases e1 : i = j
            · subst e1; exact HE.out
            · exact hok.out i (by omega)
          clear hok HE
          go_wp2_with fail
          refine CN.out.mono ?_; rintro e w2 ⟨rfl, b2⟩
          have B2 := Lib.hid b2
          clear b2
          go_wp2
          go_roundw
          case rel => exact ⟨j + 1, by omega, by go_num, bel.out.trans (B2.out.mono (by omega)), hnext⟩
          case measure => simp [intOf]; omega
        · have hf := fe_hit (f := ndsE ns) hjn hok.out (by rw [HE.out]; exact e0)
          have e : r = E := by rw [← HR2.out, hf, HE.out, if_neg e0]
          have T := bne_t e0
          subst e
          clear e0 hf
          go_wp2_with fail
          refine CN.out.mono ?_; rintro e w2 ⟨rfl, b2⟩
          have B2 := Lib.hid b2
          clear b2
          go_wp2
          go_ret
          exact ⟨rfl, BL.out.trans (B2.out.mono BL.out.size)⟩
      · obtain rfl : N = j := by omega
        have hf := fe_ok hok.out
        have HR3 : Hid (fe (dvsE ns ds) M = r) := by show _ = r; rw [← HR2.out, if_pos hf]
        clear hf hok HR2
        go_wp2_with fail
        go_loopw [33] (fun i wr => ∃ j : Nat, j ≤ M ∧ i = .int .i64 j ∧ Hid (Below (w.heap.size + 1) (w.alloc (.cells #[.slice a N c, .slice b M d] 26)) wr) ∧ Hid (∀ i, i < j → dvsE ns ds i = 0)) (fun i _ => M - (intOf i).toNat)
        case atStart => exact ⟨0, Nat.zero_le _, rfl, bel, fun i hi => by cases hi⟩
        case round =>
          clear k1 k2 k3 BL bel
          obtain ⟨i, hi, rfl, bel, hok⟩ := hrel
          obtain ⟨k1, k2, k3⟩ := NT.out.below bel.out (Nat.lt_succ_self _)
          have BL := Lib.hid (bx.out.trans (bel.out.mono (by omega)))
          by_cases hin : i < M
          · obtain ⟨E, hE⟩ : ∃ E, dvsE ns ds i = E := ⟨_, rfl⟩
            have HE := Lib.hid hE
            have hne := Lib.hid (HN.out _ BL.out)
            have CN := Lib.hid (checkDevice_is a b N c M d i ns ds E _ (HH.out _ BL.out) hne.out.nlen hne.out.nin hne.out.dlen hne.out.din hne.out.dfit h1 h2 hin n3 n4 hE)
            clear hE hne
            by_cases e0 : E = 0
            · subst e0
              have hnext : Hid (∀ k, k < i + 1 → dvsE ns ds k = 0) := fun k hk => by
                by_cases e1 : k = i
                · subst e1; exact HE.out
                · exact hok.out k (by omega)
              clear hok HE
              go_wp2_with fail
              refine CN.out.mono ?_; rintro e w2 ⟨rfl, b2⟩
              have B2 := Lib.hid b2
              clear b2
              go_wp2
              go_roundw
              case rel => exact ⟨i + 1, by omega, by go_num, bel.out.trans (B2.out.mono (by omega)), hnext⟩
              case measure => simp [intOf]; omega
            · have hf := fe_hit (f := dvsE ns ds) hin hok.out (by rw [HE.out]; exact e0)
              have e : r = E := by rw [← HR3.out, hf, HE.out]
              have T := bne_t e0
              subst e
              clear e0 hf
              go_wp2_with fail
              refine CN.out.mono ?_; rintro e w2 ⟨rfl, b2⟩
              have B2 := Lib.hid b2
              clear b2
              go_wp2
              go_ret
              exact ⟨rfl, BL.out.trans (B2.out.mono BL.out.size)⟩
          · obtain rfl : M = i := by omega
            have e : r = 0 := by rw [← HR3.out]; exact fe_ok hok.out
            subst e
            go_wp2
            go_ret
            exact ⟨rfl, BL.out⟩
end Go.Proofs.YtoeojhabhnoojaaDoor.net
