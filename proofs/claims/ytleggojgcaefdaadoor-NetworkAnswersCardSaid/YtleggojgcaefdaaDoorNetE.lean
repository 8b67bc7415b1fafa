/- The walks of layer 3: over a device, Node, Device, Other, At. Condition: the table 'classes' holds what its text lays. -/
import Derived.Test.YtleggojgcaefdaaDoorNetD
import Derived.Laws.OwnMore
namespace Go.Proofs.YtleggojgcaefdaaDoor.net
open Go.RowKit lex aggs kit

set_option maxRecDepth 100000 in
set_option maxHeartbeats 1000000 in
theorem across_is (d : Dv) (v r : Int) (w : World) (hr : acr d v = r) :
    Calls Tryd.prog 46 #[dvV d, .int .i64 v] w fun e w' => e = .returned (.int .i64 r) ∧ w' = w.alloc (.cells #[.string d.nm, .int .i64 d.ki, .int .i64 d.a, .int .i64 d.b, .int .i64 d.co] 54) := by
  obtain ⟨nm, ki, da, db, co⟩ := d
  dsimp only
  have hj1 := Lib.hid (fun h w => joins_is ki true (decide_eq_true h) w)
  have hj0 := Lib.hid (fun h w => joins_is ki false (decide_eq_false h) w)
  unfold acr at hr
  dsimp only at hr
  have HR := Lib.hid hr
  clear hr
  unfold dvV
  by_cases h2 : 1 ≤ ki ∧ ki ≤ 3
  · by_cases h3 : v = da
    · have e : r = db := by rw [← HR.out, if_pos h2, if_pos h3]
      subst e
      subst h3
      have H2 := Lib.hid h2
      clear h2
      go_enter Tryd.func46, Tryd.ntmps46
      go_wp2_with fail
      refine (hj1.out H2.out _).mono ?_; rintro e w' ⟨rfl, rfl⟩
      go_wp2
      go_ret
      exact ⟨rfl, rfl⟩
    · by_cases h4 : v = db
      · have e : r = da := by rw [← HR.out, if_pos h2, if_neg h3, if_pos h4]
        subst e
        subst h4
        have H2 := Lib.hid h2
        have T : (v == r) = false := beq_eq_false_iff_ne.2 h3
        clear h2 h3
        go_enter Tryd.func46, Tryd.ntmps46
        go_wp2_with fail
        refine (hj1.out H2.out _).mono ?_; rintro e w' ⟨rfl, rfl⟩
        go_wp2
        go_ret
        exact ⟨rfl, rfl⟩
      · have e : r = -1 := by rw [← HR.out, if_pos h2, if_neg h3, if_neg h4]
        subst e
        have H2 := Lib.hid h2
        have T : (v == da) = false := beq_eq_false_iff_ne.2 h3
        have T2 : (v == db) = false := beq_eq_false_iff_ne.2 h4
        clear h2 h3 h4
        go_enter Tryd.func46, Tryd.ntmps46
        go_wp2_with fail
        refine (hj1.out H2.out _).mono ?_; rintro e w' ⟨rfl, rfl⟩
        go_wp2
        go_ret
        exact ⟨rfl, rfl⟩
  · have e : r = -1 := by rw [← HR.out, if_neg h2]
    subst e
    have H2 := Lib.hid h2
    clear h2
    go_enter Tryd.func46, Tryd.ntmps46
    go_wp2_with fail
    refine (hj0.out H2.out _).mono ?_; rintro e w' ⟨rfl, rfl⟩
    go_wp2
    go_ret
    exact ⟨rfl, rfl⟩
set_option maxRecDepth 100000 in
set_option maxHeartbeats 1000000 in
theorem node_is (a b : Option Addr) (N c M d : Nat) (ns : List Nd) (ds : List Dv) (s : ByteArray) (r : Int) (w : World) (H : HasClasses w) (h : NetIn w a b N c M d ns ds) (hr : (if chk ns ds = 0 then fnd (nmsN ns) s else -1) = r) :
    Calls Tryd.prog 18 #[.agg #[.slice a N c, .slice b M d], .string s] w fun e w' => e = .returned (.int .i64 r) ∧ Below w.heap.size w w' := by
  have bx := below_box w (.cells #[.slice a N c, .slice b M d] 26)
  have NT := Lib.hid (NtAt.new w (.slice a N c) (.slice b M d) 26)
  have hb := Lib.hid (h.below bx)
  obtain ⟨E, hE⟩ : ∃ E, chk ns ds = E := ⟨_, rfl⟩
  have CK := Lib.hid (check_is a b N c M d ns ds E _ (H.below bx) hb.out hE)
  rw [hE] at hr
  have BX := Lib.hid bx
  have HR := Lib.hid hr
  clear bx hE hr H h
  by_cases e0 : E = 0
  · subst e0
    go_enter Tryd.func18, Tryd.ntmps18
    go_wp2_with fail
    refine CK.out.mono ?_; rintro e w2 ⟨rfl, b2⟩
    have B2 := Lib.hid b2
    obtain ⟨k1, k2, k3⟩ := NT.out.below b2 NT.out.2.2
    have hn2 := Lib.hid (hb.out.below b2)
    clear b2
    go_wp2_with fail
    refine (nodeNamed_is _ N c s ns r _ hn2.out.nlen hn2.out.nin (Nat.le_trans hn2.out.ncap hn2.out.nmax) (by have := HR.out; simpa using this)).mono ?_; rintro e w' ⟨rfl, rfl⟩
    go_wp2
    go_ret
    exact ⟨rfl, BX.out.trans (B2.out.mono BX.out.size)⟩
  · have e : r = -1 := by rw [← HR.out, if_neg e0]
    have T := bne_t e0
    subst e
    clear e0
    go_enter Tryd.func18, Tryd.ntmps18
    go_wp2_with fail
    refine CK.out.mono ?_; rintro e w2 ⟨rfl, b2⟩
    have B2 := Lib.hid b2
    clear b2
    go_wp2
    go_ret
    exact ⟨rfl, BX.out.trans (B2.out.mono BX.out.size)⟩
set_option maxRecDepth 100000 in
set_option maxHeartbeats 1000000 in
theorem device_is (a b : Option Addr) (N c M d : Nat) (ns : List Nd) (ds : List Dv) (s : ByteArray) (r : Int) (w : World) (H : HasClasses w) (h : NetIn w a b N c M d ns ds) (hr : (if chk ns ds = 0 then fnd (nmsD ds) s else -1) = r) :
    Calls Tryd.prog 20 #[.agg #[.slice a N c, .slice b M d], .string s] w fun e w' => e = .returned (.int .i64 r) ∧ Below w.heap.size w w' := by
  have bx := below_box w (.cells #[.slice a N c, .slice b M d] 26)
  have NT := Lib.hid (NtAt.new w (.slice a N c) (.slice b M d) 26)
  have hb := Lib.hid (h.below bx)
  obtain ⟨E, hE⟩ : ∃ E, chk ns ds = E := ⟨_, rfl⟩
  have CK := Lib.hid (check_is a b N c M d ns ds E _ (H.below bx) hb.out hE)
  rw [hE] at hr
  have BX := Lib.hid bx
  have HR := Lib.hid hr
  clear bx hE hr H h
  by_cases e0 : E = 0
  · subst e0
    go_enter Tryd.func20, Tryd.ntmps20
    go_wp2_with fail
    refine CK.out.mono ?_; rintro e w2 ⟨rfl, b2⟩
    have B2 := Lib.hid b2
    obtain ⟨k1, k2, k3⟩ := NT.out.below b2 NT.out.2.2
    have hn2 := Lib.hid (hb.out.below b2)
    clear b2
    go_wp2_with fail
    refine (deviceNamed_is _ M d s ds r _ hn2.out.dlen hn2.out.din (Nat.le_trans hn2.out.dcap hn2.out.dmax) (by have := HR.out; simpa using this)).mono ?_; rintro e w' ⟨rfl, rfl⟩
    go_wp2
    go_ret
    exact ⟨rfl, BX.out.trans (B2.out.mono BX.out.size)⟩
  · have e : r = -1 := by rw [← HR.out, if_neg e0]
    have T := bne_t e0
    subst e
    clear e0
    go_enter Tryd.func20, Tryd.ntmps20
    go_wp2_with fail
    refine CK.out.mono ?_; rintro e w2 ⟨rfl, b2⟩
    have B2 := Lib.hid b2
    clear b2
    go_wp2
    go_ret
    exact ⟨rfl, BX.out.trans (B2.out.mono BX.out.size)⟩
theorem getD_of {ds : List Dv} {i : Nat} (hi : i < ds.length) : ds.getD i default = ds[i] := by rw [List.getD_eq_getElem?_getD, List.getElem?_eq_getElem hi]; rfl
/-- what Other says -/
def othV (ns : List Nd) (ds : List Dv) (i v : Int) : Int := if chk ns ds = 0 ∧ 0 ≤ i ∧ i < ds.length then acr (ds.getD i.toNat default) v else -1
set_option maxRecDepth 100000 in
set_option maxHeartbeats 1000000 in
theorem other_is (a b : Option Addr) (N c M d : Nat) (ns : List Nd) (ds : List Dv) (i v r : Int) (w : World) (H : HasClasses w) (h : NetIn w a b N c M d ns ds) (i0 : -9223372036854775808 ≤ i) (i1 : i ≤ 9223372036854775807) (hr : othV ns ds i v = r) :
    Calls Tryd.prog 26 #[.agg #[.slice a N c, .slice b M d], .int .i64 i, .int .i64 v] w fun e w' => e = .returned (.int .i64 r) ∧ Below w.heap.size w w' := by
  have bx := below_box w (.cells #[.slice a N c, .slice b M d] 26)
  have NT := Lib.hid (NtAt.new w (.slice a N c) (.slice b M d) 26)
  have hb := Lib.hid (h.below bx)
  have n1 := h.dcap
  have n2 := h.dmax
  unfold maxLen at n2
  obtain ⟨E, hE⟩ : ∃ E, chk ns ds = E := ⟨_, rfl⟩
  have CK := Lib.hid (check_is a b N c M d ns ds E _ (H.below bx) hb.out hE)
  unfold othV at hr
  rw [hE, h.dlen] at hr
  have BX := Lib.hid bx
  have HR := Lib.hid hr
  clear bx hE hr H h
  by_cases e0 : E = 0
  · subst e0
    by_cases h1 : 0 ≤ i
    · by_cases h2 : i < M
      · obtain ⟨k, rfl⟩ : ∃ k : Nat, i = k := ⟨i.toNat, by omega⟩
        have hkM : k < M := by omega
        have hkd : k < ds.length := by rw [hb.out.dlen]; exact hkM
        obtain ⟨g, o, rfl, hg, hc⟩ := hb.out.din.some (by omega)
        have hr2 : acr (ds.getD k default) v = r := by rw [← HR.out, if_pos ⟨rfl, h1, h2⟩]; rfl
        rw [getD_of hkd] at hr2
        have hc0 := cells_dv hc k hkd
        obtain ⟨x, hx⟩ : ∃ x, ds[k] = x := ⟨_, rfl⟩
        rw [hx] at hr2 hc0
        have AC := Lib.hid (fun w => across_is x v r w hr2)
        clear hx hr2 hc HR hkd
        unfold dvV at AC
        go_enter Tryd.func26, Tryd.ntmps26
        go_wp2_with fail
        refine CK.out.mono ?_; rintro e w2 ⟨rfl, b2⟩
        have B2 := Lib.hid b2
        obtain ⟨k1, k2, k3⟩ := NT.out.below b2 NT.out.2.2
        obtain ⟨c0, c1, c2, c3, c4⟩ := hc0
        rw [← b2.cell (p := ⟨g, o + k * 5, none⟩) hg] at c0
        rw [← b2.cell (p := ⟨g, o + k * 5 + 1, none⟩) hg] at c1
        rw [← b2.cell (p := ⟨g, o + k * 5 + 2, none⟩) hg] at c2
        rw [← b2.cell (p := ⟨g, o + k * 5 + 3, none⟩) hg] at c3
        rw [← b2.cell (p := ⟨g, o + k * 5 + 4, none⟩) hg] at c4
        obtain ⟨nm, ki, da, db, co⟩ := x
        dsimp only at c0 c1 c2 c3 c4 AC
        clear b2
        go_wp2_with fail
        refine (AC.out _).mono ?_; rintro e w' ⟨rfl, rfl⟩
        go_wp2
        go_ret
        exact ⟨rfl, (BX.out.trans (B2.out.mono BX.out.size)).trans ((below_box w2 _).mono (Nat.le_trans BX.out.size B2.out.size))⟩
      · have e : r = -1 := by rw [← HR.out, if_neg (fun h => h2 h.2.2)]
        subst e
        go_enter Tryd.func26, Tryd.ntmps26
        go_wp2_with fail
        refine CK.out.mono ?_; rintro e w2 ⟨rfl, b2⟩
        have B2 := Lib.hid b2
        obtain ⟨k1, k2, k3⟩ := NT.out.below b2 NT.out.2.2
        clear b2
        go_wp2
        all_goals (first | (exfalso; omega) | (go_ret; exact ⟨rfl, BX.out.trans (B2.out.mono BX.out.size)⟩))
    · have e : r = -1 := by rw [← HR.out, if_neg (fun h => h1 h.2.1)]
      subst e
      go_enter Tryd.func26, Tryd.ntmps26
      go_wp2_with fail
      refine CK.out.mono ?_; rintro e w2 ⟨rfl, b2⟩
      have B2 := Lib.hid b2
      obtain ⟨k1, k2, k3⟩ := NT.out.below b2 NT.out.2.2
      clear b2
      go_wp2
      all_goals (first | (exfalso; omega) | (go_ret; exact ⟨rfl, BX.out.trans (B2.out.mono BX.out.size)⟩))
  · have e : r = -1 := by rw [← HR.out, if_neg (fun h => e0 h.1)]
    have T := bne_t e0
    subst e
    clear e0
    go_enter Tryd.func26, Tryd.ntmps26
    go_wp2_with fail
    refine CK.out.mono ?_; rintro e w2 ⟨rfl, b2⟩
    have B2 := Lib.hid b2
    clear b2
    go_wp2
    all_goals (first | (exfalso; omega) | (go_ret; exact ⟨rfl, BX.out.trans (B2.out.mono BX.out.size)⟩))
end Go.Proofs.YtleggojgcaefdaaDoor.net
