/- The walks of layer 6: Check and State. Conditions: the tables 'classes' and 'flags' hold what their texts lay. -/
import Derived.Test.YtoeojhabhnoojaaDoorMkC
import Derived.Test.YtoeojhabhnoojaaDoorNetD
namespace Go.Proofs.YtoeojhabhnoojaaDoor.msk
open Go.RowKit lex aggs kit net deck

def chkM (f : Int) (ns : List Nd) (ds : List Dv) (xs : List Int) : Int :=
  if chk ns ds = 0 then if xs.length = ds.length then if xs.all (hB f) = true then 0 else 10 else 9 else chk ns ds
set_option maxRecDepth 100000 in
set_option maxHeartbeats 1000000 in
theorem mchk_is (a b l : Option Addr) (N c M d L k : Nat) (ns : List Nd) (ds : List Dv) (xs : List Int) (f r : Int) (w : World) (HC : HasClasses w) (HF : Flg w) (h : NetIn w a b N c M d ns ds) (hx : LIn w l L k xs) (hf : f = 1 ∨ f = 2) (hr : chkM f ns ds xs = r) :
    Calls Tryd.prog 56 #[.agg #[.slice a N c, .slice b M d], .slice l L k, .int .i64 f] w fun e w' => e = .returned (.int .i64 r) ∧ Below w.heap.size w w' := by
  subst hr
  have bx := below_box w (.cells #[.slice a N c, .slice b M d] 26)
  have NT := NtAt.new w (.slice a N c) (.slice b M d) 26
  obtain ⟨c0, c1, -⟩ := NT
  have BX := Lib.hid bx
  have H1 := Lib.hid (HC.below bx)
  have H2 := Lib.hid (h.below bx)
  have HFX := Lib.hid (fun wr (b : Below w.heap.size w wr) => HF.below b)
  have HLX := Lib.hid (fun wr (b : Below w.heap.size w wr) => hx.below b)
  have hn := Lib.hid hx.len
  have hm := Lib.hid h.dlen
  have n2 := hx.cap
  have n3 := hx.max
  have m2 := h.dcap
  have m3 := h.dmax
  unfold maxLen at n3 m3
  have hff := Lib.hid hf
  obtain ⟨E, hE⟩ : ∃ E, chk ns ds = E := ⟨_, rfl⟩
  have HE := Lib.hid hE
  have E1 := chk_in ns ds
  rw [hE] at E1
  clear bx HC HF h hx hf hE
  by_cases e0 : E = 0
  · subst e0
    have hv : Hid (chkM f ns ds xs = if xs.length = ds.length then if xs.all (hB f) = true then 0 else 10 else 9) := by show _ = _; unfold chkM; rw [if_pos HE.out]
    by_cases e1 : L = M
    · obtain ⟨r, hr⟩ : ∃ r, xs.all (hB f) = r := ⟨_, rfl⟩
      have HR := Lib.hid hr
      have hv2 : Hid (chkM f ns ds xs = if r = true then 0 else 10) := by show _ = _; rw [hv.out, if_pos (by rw [hn.out, hm.out, e1]), hr]
      subst e1
      clear hr hv
      go_enter Tryd.func56, Tryd.ntmps56
      go_wp2_with fail
      refine (check_is a b N c L d ns ds 0 _ H1.out H2.out HE.out).mono ?_
      rintro e w2 ⟨rfl, b2⟩
      have B2 := Lib.hid (BX.out.trans (b2.mono (by simp)))
      obtain ⟨k0, k1⟩ : w2.cell? ⟨w.heap.size, 0, none⟩ = some (.slice a N c) ∧ w2.cell? ⟨w.heap.size, 1, none⟩ = some (.slice b L d) :=
        ⟨(b2.cell (p := ⟨w.heap.size, 0, none⟩) (by simp)).trans c0, (b2.cell (p := ⟨w.heap.size, 1, none⟩) (by simp)).trans c1⟩
      clear b2 c0 c1
      go_wp2_with fail
      refine (allHave_is f l L k xs r _ (HFX.out _ B2.out) hff.out (HLX.out _ B2.out) HR.out).mono ?_; rintro e w' ⟨rfl, rfl⟩
      cases r
      · go_wp2
        go_ret
        exact ⟨ret_int (by rw [hv2.out]; rfl), B2.out⟩
      · go_wp2
        go_ret
        exact ⟨ret_int (by rw [hv2.out]; rfl), B2.out⟩
    · have hv2 : Hid (chkM f ns ds xs = 9) := by show _ = _; rw [hv.out, if_neg (by rw [hn.out, hm.out]; exact e1)]
      have T1 : ((L : Int) != (M : Int)) = true := bne_iff_ne.2 (by omega)
      clear hv
      go_enter Tryd.func56, Tryd.ntmps56
      go_wp2_with fail
      refine (check_is a b N c M d ns ds 0 _ H1.out H2.out HE.out).mono ?_
      rintro e w2 ⟨rfl, b2⟩
      have B2 := Lib.hid (BX.out.trans (b2.mono (by simp)))
      obtain ⟨k0, k1⟩ : w2.cell? ⟨w.heap.size, 0, none⟩ = some (.slice a N c) ∧ w2.cell? ⟨w.heap.size, 1, none⟩ = some (.slice b M d) :=
        ⟨(b2.cell (p := ⟨w.heap.size, 0, none⟩) (by simp)).trans c0, (b2.cell (p := ⟨w.heap.size, 1, none⟩) (by simp)).trans c1⟩
      clear b2 c0 c1
      go_wp2
      go_ret
      exact ⟨ret_int (by rw [hv2.out]), B2.out⟩
  · have hv : Hid (chkM f ns ds xs = E) := by show _ = _; unfold chkM; rw [HE.out, if_neg e0]
    have T1 : (E != 0) = true := bne_iff_ne.2 e0
    go_enter Tryd.func56, Tryd.ntmps56
    go_wp2_with fail
    refine (check_is a b N c M d ns ds E _ H1.out H2.out HE.out).mono ?_
    rintro e w2 ⟨rfl, b2⟩
    have B2 := Lib.hid (BX.out.trans (b2.mono (by simp)))
    clear b2 c0 c1
    go_wp2
    go_ret
    exact ⟨ret_int (by rw [hv.out]), B2.out⟩
theorem mCheck_is (a b l : Option Addr) (N c M d L k : Nat) (ns : List Nd) (ds : List Dv) (xs : List Int) (r : Int) (w : World) (HC : HasClasses w) (HF : Flg w) (h : NetIn w a b N c M d ns ds) (hx : LIn w l L k xs) (hr : chkM 1 ns ds xs = r) :
    Calls Tryd.prog 42 #[.agg #[.slice a N c, .slice b M d], .slice l L k] w fun e w' => e = .returned (.int .i64 r) ∧ Below w.heap.size w w' := by
  have bx := below_box w (.cells #[.slice a N c, .slice b M d] 26)
  have CC := Lib.hid (mchk_is a b l N c M d L k ns ds xs 1 r _ (HC.below bx) (HF.below bx) (h.below bx) (hx.below bx) (.inl rfl) hr)
  have BX := Lib.hid bx
  clear HC HF h hx hr bx
  go_enter Tryd.func42, Tryd.ntmps42
  go_wp2_with fail
  refine CC.out.mono ?_; rintro e w2 ⟨rfl, b2⟩
  have B2 := Lib.hid (BX.out.trans (b2.mono (by simp)))
  clear b2
  go_wp2
  go_ret
  exact ⟨rfl, B2.out⟩
theorem mState_is (a b l : Option Addr) (N c M d L k : Nat) (ns : List Nd) (ds : List Dv) (xs : List Int) (r : Int) (w : World) (HC : HasClasses w) (HF : Flg w) (h : NetIn w a b N c M d ns ds) (hx : LIn w l L k xs) (hr : chkM 2 ns ds xs = r) :
    Calls Tryd.prog 39 #[.agg #[.slice a N c, .slice b M d], .slice l L k] w fun e w' => e = .returned (.int .i64 r) ∧ Below w.heap.size w w' := by
  have bx := below_box w (.cells #[.slice a N c, .slice b M d] 26)
  have CC := Lib.hid (mchk_is a b l N c M d L k ns ds xs 2 r _ (HC.below bx) (HF.below bx) (h.below bx) (hx.below bx) (.inr rfl) hr)
  have BX := Lib.hid bx
  clear HC HF h hx hr bx
  go_enter Tryd.func39, Tryd.ntmps39
  go_wp2_with fail
  refine CC.out.mono ?_; rintro e w2 ⟨rfl, b2⟩
  have B2 := Lib.hid (BX.out.trans (b2.mono (by simp)))
  clear b2
  go_wp2
  go_ret
  exact ⟨rfl, B2.out⟩
end Go.Proofs.YtoeojhabhnoojaaDoor.msk
