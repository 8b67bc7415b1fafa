/- The walks of layer 7: the map of least nodes: the way down from a node, two parts made one. Condition: nodes are fewer than 2^31. -/
import Derived.Test.YtoeojhabhnoojaaDoorCoM
import Derived.Test.YtoeojhabhnoojaaDoorRin
import Derived.Maps.OwnSet
import Derived.WalkArith
import Derived.Deep.QuietTactic
import Derived.BigQuiet
import Derived.RegionTactic
import Derived.Outline
import Derived.WalkSpells
import Derived.WalkLawsBesides
namespace Go.Proofs.YtoeojhabhnoojaaDoor.col
open Go.RowKit Go.Maps lex aggs kit net msk

theorem lawI : Keyed Tryd.prog 3 := int_keyed Tryd.underlying3
theorem zeroI (w : World) : (zeroValue 3).run Tryd.prog w = .ok (.int .i64 0) w := by kernel_rfl
def kI (v : Nat) : Lit := .int .i64 v
theorem kI_ne {a b : Nat} (h : a ≠ b) : kI a ≠ kI b := fun e => by simp [kI] at e; omega
theorem keyI {v : Nat} (h : v < 2147483648) : keyOf Tryd.prog 3 (.int .i64 (v : Int)) = some (kI v) := keyOf_int_mk Tryd.underlying3 (WalkArith.wf_i64 (by omega))
theorem lit_c {D : DataW Unit} {v u : Nat} {c : Int} (h : D.atKey (kI v) (.lit (.int .i64 0)) = .lit (.int .i64 c)) (k : ∀ z, D.atKey (kI v) z = .lit (kI u)) : c = (u : Int) := by
  rw [k] at h; simpa [kI] using h.symm
/-- the map holds the way down from each node to its least one -/
structure Rep (N : Nat) (p : Nat → Nat) (D : DataW Unit) : Prop where
  map : IsMap D
  low : ∀ v, p v ≤ v
  idem : ∀ v, p (p v) = p v
  has : ∀ v, v < N → Maps.has D (kI v) = true → ∃ u : Nat, u < v ∧ p u = p v ∧ ∀ z, D.atKey (kI v) z = .lit (kI u)
  no : ∀ v, v < N → Maps.has D (kI v) = false → p v = v
theorem Rep.start (N : Nat) : Rep N (fun v => v) (.map []) := ⟨isMap_empty, fun _ => Nat.le_refl _, fun _ => rfl, fun _ _ h => by simp [Maps.has] at h, fun _ _ _ => rfl⟩
theorem Rep.same {N : Nat} {p q : Nat → Nat} {D : DataW Unit} (h : Rep N p D) (e : ∀ v, p v = q v) : Rep N q D := by
  obtain rfl : p = q := funext e
  exact h
theorem Rep.join {N : Nat} {p : Nat → Nat} {D : DataW Unit} (h : Rep N p D) {a b x y : Nat} (hx : p a = x ∧ p b = y ∨ p a = y ∧ p b = x) (hl : y < x) : Rep N (mrg p a b) (D.put (kI x) (.lit (kI y))) := by
  have hm : max (p a) (p b) = x ∧ min (p a) (p b) = y := by omega
  have px : p x = x := by rcases hx with ⟨h1, _⟩ | ⟨_, h1⟩ <;> rw [← h1] <;> exact h.idem _
  have py : p y = y := by rcases hx with ⟨_, h1⟩ | ⟨h1, _⟩ <;> rw [← h1] <;> exact h.idem _
  have e : ∀ v, mrg p a b v = if p v = x then y else p v := fun v => by unfold mrg; rw [hm.1, hm.2]
  refine ⟨h.map.put _ _, fun v => ?_, fun v => ?_, fun v hv hh => ?_, fun v hv hh => ?_⟩
  · have := h.low v; rw [e]; split <;> omega
  · rw [e, e]
    by_cases h1 : p v = x
    · rw [if_pos h1, py, if_neg (by omega)]
    · rw [if_neg h1, h.idem, if_neg h1]
  · by_cases hvx : v = x
    · subst hvx
      refine ⟨y, hl, ?_, fun z => atKey_put_same (k := kI v) h.map trivial _ _⟩
      rw [e, e, py, px, if_neg (by omega), if_pos rfl]
    · rw [has_put_other (kI_ne hvx)] at hh
      obtain ⟨u, h1, h2, h3⟩ := h.has v hv hh
      exact ⟨u, h1, by rw [e, e, h2], fun z => by rw [atKey_put_other (kI_ne hvx)]; exact h3 z⟩
  · by_cases hvx : v = x
    · subst hvx
      rw [has_put_same (k := kI v) h.map trivial] at hh; cases hh
    · rw [has_put_other (kI_ne hvx)] at hh
      have := h.no v hv hh
      rw [e, this, if_neg hvx]
theorem rep_mrg {N : Nat} {p : Nat → Nat} {D : DataW Unit} (h : Rep N p D) {a b : Nat} (e : p a = p b) : Rep N (mrg p a b) D := h.same (fun _ => (mrg_same e).symm)
/-- block b is such a map, of at most n entries -/
def LM (w : World) (b n N : Nat) (p : Nat → Nat) : Prop := ∃ D : DataW Unit, w.ownsMap Tryd.prog 3 (plainElem Tryd.prog 3) b n D ∧ Rep N p D
theorem LM.made (w : World) (N : Nat) : LM (w.alloc (.map #[] 0)) w.heap.size 0 N (fun v => v) := ⟨_, World.ownsMap_made _ _ _ _, Rep.start N⟩
theorem LM.lt {w : World} {b n N : Nat} {p : Nat → Nat} (h : LM w b n N p) : b < w.heap.size := by obtain ⟨D, h1, _⟩ := h; exact h1.lt
theorem LM.mono {w : World} {b n n' N : Nat} {p : Nat → Nat} (h : LM w b n N p) (hn : n ≤ n') : LM w b n' N p := by obtain ⟨D, h1, h2⟩ := h; exact ⟨D, h1.mono hn, h2⟩
theorem LM.kept {w w' : World} {b n N : Nat} {p : Nat → Nat} {row : Option Nat} (h : LM w b n N p) (hg : w.grownBy w' row) (hne : some b ≠ row) : LM w' b n N p := by obtain ⟨D, h1, h2⟩ := h; exact ⟨D, h1.kept hg hne, h2⟩
theorem LM.alloc {w : World} {b n N : Nat} {p : Nat → Nat} (h : LM w b n N p) (o : Obj) : LM (w.alloc o) b n N p := by obtain ⟨D, h1, h2⟩ := h; exact ⟨D, h1.alloc o, h2⟩
theorem LM.same {w : World} {b n N : Nat} {p q : Nat → Nat} (h : LM w b n N p) (e : ∀ v, p v = q v) : LM w b n N q := by obtain ⟨D, h1, h2⟩ := h; exact ⟨D, h1, h2.same e⟩
set_option maxRecDepth 100000 in
set_option maxHeartbeats 1000000 in
theorem of_is (b n N v : Nat) (p : Nat → Nat) (w : World) (h : LM w b n N p) (hv : v < N) (hN : N ≤ 1000) :
    Calls Tryd.prog 59 #[.map (some b), .int .i64 (v : Int)] w fun e w' => e = .returned (.int .i64 (p v : Int)) ∧ w = w' := by
  obtain ⟨D, hown, hrep⟩ := h
  have HO := Lib.hid hown
  have HR := Lib.hid hrep
  clear hown hrep
  go_enter Tryd.func59, Tryd.ntmps59
  go_wp2
  go_loop [1] (fun i => ∃ k : Nat, k < N ∧ i = .int .i64 k ∧ Hid (p k = p v)) (fun i => (intOf i).toNat)
  case atStart => exact ⟨v, hv, rfl, rfl⟩
  case round =>
    obtain ⟨k, hk, rfl, he⟩ := hrel
    have hkey := keyI (v := k) (by omega)
    obtain ⟨x, hx⟩ : ∃ x, Maps.has D (kI k) = x := ⟨_, rfl⟩
    have HX := Lib.hid hx
    clear hx
    cases x
    · have hp := Lib.hid (HR.out.no k hk HX.out)
      go_wp2_with (at_lookup; refine wpList_lookup_own_ok_int _ rfl _ _ 87 rfl 3 3 .i64 lawI Tryd.underlying87 Tryd.underlying3 (zeroI _) b n D rfl HO.out _ _ rfl hkey ?_; intro c hat hwc; rw [HX.out]; clear hat hwc)
      go_ret
      exact ⟨by rw [← he.out, hp.out]; rfl, rfl⟩
    · obtain ⟨u, hu, hp, ha⟩ := HR.out.has k hk HX.out
      have HA := Lib.hid ha
      have HP := Lib.hid hp
      clear ha hp
      go_wp2_with (at_lookup; refine wpList_lookup_own_ok_int _ rfl _ _ 87 rfl 3 3 .i64 lawI Tryd.underlying87 Tryd.underlying3 (zeroI _) b n D rfl HO.out _ _ rfl hkey ?_; intro c hat hwc; rw [HX.out]; obtain rfl := lit_c hat HA.out; clear hat hwc)
      go_round
      case rel => exact ⟨u, by omega, rfl, HP.out.trans he.out⟩
      case measure => simp [intOf]; omega
set_option maxRecDepth 100000 in
set_option maxHeartbeats 1000000 in
theorem join_is (b n N u v : Nat) (p : Nat → Nat) (w : World) (h : LM w b n N p) (hu : u < N) (hv : v < N) (hN : N ≤ 1000) (hn : n ≤ 1000) :
    Calls Tryd.prog 58 #[.map (some b), .int .i64 (u : Int), .int .i64 (v : Int)] w fun e w' => e = .returned (.tuple #[]) ∧ LM w' b (n + 1) N (mrg p u v) ∧ w.grownBy w' (some b) := by
  have O1 := Lib.hid (of_is b n N u p w h hu hN)
  have O2 := Lib.hid (of_is b n N v p w h hv hN)
  obtain ⟨D, hown, hrep⟩ := h
  have ha := hrep.low u
  have hb := hrep.low v
  have HO := Lib.hid hown
  have HR := Lib.hid hrep
  clear hown hrep
  obtain ⟨A, hA⟩ : ∃ A, p u = A := ⟨_, rfl⟩
  obtain ⟨B, hB⟩ : ∃ B, p v = B := ⟨_, rfl⟩
  rw [hA] at O1 ha
  rw [hB] at O2 hb
  have HA := Lib.hid hA
  have HB := Lib.hid hB
  clear hA hB
  by_cases e : A = B
  · subst e
    have NL : Hid (LM w b (n + 1) N (mrg p u v)) := ⟨D, HO.out.mono (Nat.le_succ _), rep_mrg HR.out (by rw [HA.out, HB.out])⟩
    go_enter Tryd.func58, Tryd.ntmps58
    go_wp2_with (first | (go_at_call 59; first | (with_reducible refine O1.out.mono ?_; rintro e w' ⟨rfl, rfl⟩) | (with_reducible refine O2.out.mono ?_; rintro e w' ⟨rfl, rfl⟩)))
    go_end0
    exact ⟨rfl, NL.out, World.grownBy.refl _ _⟩
  · have t1 : ((A : Int) != (B : Int)) = true := bne_iff_ne.2 (by omega)
    by_cases hl : A < B
    · have hx : max (A : Int) (B : Int) = (B : Int) := by omega
      have hm : min (A : Int) (B : Int) = (A : Int) := by omega
      have NL := Lib.hid (HR.out.join (a := u) (b := v) (x := B) (y := A) (.inr ⟨HA.out, HB.out⟩) hl)
      have hkey := keyI (v := B) (by omega)
      go_enter Tryd.func58, Tryd.ntmps58
      go_wp2_with (first | (go_at_call 59; first | (with_reducible refine O1.out.mono ?_; rintro e w' ⟨rfl, rfl⟩) | (with_reducible refine O2.out.mono ?_; rintro e w' ⟨rfl, rfl⟩)) | (at_mapUpdate; refine wpList_mapUpdate_own _ rfl _ _ _ 87 rfl 3 3 lawI Tryd.underlying87 (plainElem Tryd.prog 3) b n D rfl HO.out (by unfold maxLen; omega) (.int .i64 (B : Int)) (.int .i64 (A : Int)) (kI B) rfl rfl hkey (.lit (kI A)) [] (plainElem_int Tryd.underlying3 (WalkArith.wf_i64 (by omega))) ?_; intro w1 hown1 hgrow1))
      go_end0
      exact ⟨rfl, ⟨_, hown1, NL.out⟩, hgrow1⟩
    · have hx : max (A : Int) (B : Int) = (A : Int) := by omega
      have hm : min (A : Int) (B : Int) = (B : Int) := by omega
      have NL := Lib.hid (HR.out.join (a := u) (b := v) (x := A) (y := B) (.inl ⟨HA.out, HB.out⟩) (by omega))
      have hkey := keyI (v := A) (by omega)
      go_enter Tryd.func58, Tryd.ntmps58
      go_wp2_with (first | (go_at_call 59; first | (with_reducible refine O1.out.mono ?_; rintro e w' ⟨rfl, rfl⟩) | (with_reducible refine O2.out.mono ?_; rintro e w' ⟨rfl, rfl⟩)) | (at_mapUpdate; refine wpList_mapUpdate_own _ rfl _ _ _ 87 rfl 3 3 lawI Tryd.underlying87 (plainElem Tryd.prog 3) b n D rfl HO.out (by unfold maxLen; omega) (.int .i64 (A : Int)) (.int .i64 (B : Int)) (kI A) rfl rfl hkey (.lit (kI B)) [] (plainElem_int Tryd.underlying3 (WalkArith.wf_i64 (by omega))) ?_; intro w1 hown1 hgrow1))
      go_end0
      exact ⟨rfl, ⟨_, hown1, NL.out⟩, hgrow1⟩
set_option maxRecDepth 100000 in
theorem given_is (k : Int) (r : Int) (w : World) (hr : giv k = r) :
    Calls Tryd.prog 60 #[.int .i64 k] w fun e w' => e = .returned (.int .i64 r) ∧ w = w' := by
  subst hr
  by_cases h5 : k = 5
  · subst h5
    go_enter Tryd.func60, Tryd.ntmps60
    go_wp2
    go_ret
    exact ⟨rfl, rfl⟩
  · by_cases h6 : k = 6
    · subst h6
      go_enter Tryd.func60, Tryd.ntmps60
      go_wp2
      go_ret
      exact ⟨rfl, rfl⟩
    · by_cases h4 : k = 4
      · subst h4
        go_enter Tryd.func60, Tryd.ntmps60
        go_wp2
        go_ret
        exact ⟨rfl, rfl⟩
      · have e : giv k = 0 := by unfold giv; rw [if_neg (by omega), if_neg h4]
        rw [e]
        have T1 : (k == 5) = false := beq_eq_false_iff_ne.2 h5
        have T2 : (k == 6) = false := beq_eq_false_iff_ne.2 h6
        have T3 : (k == 4) = false := beq_eq_false_iff_ne.2 h4
        clear e h4 h5 h6
        go_enter Tryd.func60, Tryd.ntmps60
        go_wp2
        go_ret
        exact ⟨rfl, rfl⟩
end Go.Proofs.YtoeojhabhnoojaaDoor.col
