/- Joined texts (one file of a claim): LaidS, MdT, MdX, NtG, NtL, NtNa, MwR, RNmP, Inv3, MdS, MdU, MdV. Each one's own remark stands before it. -/
import Derived.Test.YtdgllaiejhnjmaaDoorStrs
import Derived.Lib.LaidTab
import Derived.Test.YtdgllaiejhnjmaaDoorMdB
import Derived.Test.YtdgllaiejhnjmaaDoorMdK
import Derived.Test.YtdgllaiejhnjmaaDoorNetN
import Derived.Test.YtdgllaiejhnjmaaDoorNetQ
import Derived.Deep.Slices
import Derived.Deep.Grids
import Derived.Lib.SmallJoins
import Derived.OpenShut
import Derived.Test.YtdgllaiejhnjmaaDoorMwL
import Derived.Test.YtdgllaiejhnjmaaDoorKit
import Derived.Test.YtdgllaiejhnjmaaDoorNumP
import Derived.Test.YtdgllaiejhnjmaaDoorNamP
import Derived.BigGuardPart
import Derived.Test.YtdgllaiejhnjmaaDoorInv
import Derived.Test.YtdgllaiejhnjmaaDoorMdJ
import Derived.Test.YtdgllaiejhnjmaaDoorMdR
import Derived.Test.YtdgllaiejhnjmaaDoorMdH

/- A table of strings that is a package-level variable: what a row lists of it, what its cells hold. No program's walk in this text. -/
namespace Go.Proofs.YtdgllaiejhnjmaaDoor.strs
open Go.RowKit

/-- the table as a row lists it: an array of strings -/
def strData {H : Type} (ss : List (List UInt8)) : DataW H := .agg (ss.map fun s => .lit (.string s))
/-- the variable holds just these strings -/
def StrTab (P : Program) (w : World) (name : String) (ss : List (List UInt8)) : Prop := w.var? P name = some (ss.map fun s => Value.string (bs s)).toArray
theorem cells_of_strs {H : Type} {enc : TypeId × Value → H} {P : Program} {w : World} {base : Nat} {sp : Nat → Bool} {held : Bool} {fuel : Nat} {t e : TypeId} {n : Nat} {cs : List Value} {ss : List (List UInt8)} {p : List MemPlace}
    (ht : P.underlying t = some (.array n e)) (he : P.underlying e = some .string) (hce : P.cellsOf e = 1) (hct : P.cellsOf t = n)
    (h : DataW.trod enc P w base sp held fuel t cs = some (strData ss, p)) : cs = ss.map fun s => Value.string (bs s) := by
  cases fuel with
  | zero => simp [DataW.trod] at h
  | succ fuel =>
    simp only [DataW.trod, ht, hce, hct, Nat.mul_one] at h
    split at h
    · rename_i hl
      obtain ⟨xs, hm, hx⟩ := Option.map_eq_some_iff.1 h
      have hxs : xs.map (·.1) = ss.map fun s => (DataW.lit (.string s) : DataW H) := by
        have := congrArg Prod.fst hx
        simpa [strData] using this
      have hxl : xs.length = n := by simpa using Lib.mapM_length hm
      have hzl : ss.length = n := by
        have := congrArg List.length hxs
        simp at this
        omega
      apply List.ext_getElem?
      intro i
      by_cases hi : i < n
      · obtain ⟨b, hb, hf⟩ := Lib.mapM_at hm i i (by simp [hi])
        obtain ⟨s, hc, hd⟩ := DataW.trod_string he hf
        have h1 : cs[i]? = some (.string s) := by
          have := congrArg (·[0]?) hc
          simpa [List.getElem?_take, List.getElem?_drop] using this
        have h2 : (xs.map (·.1))[i]? = some b.1 := by simp [hb]
        rw [hxs] at h2
        simp only [List.getElem?_map, Option.map_eq_some_iff] at h2
        obtain ⟨s', hs', e⟩ := h2
        have e2 : s' = s.data.toList := by
          have := e.trans (congrArg Prod.fst hd.1)
          simpa using this
        rw [h1, List.getElem?_map, hs', e2]
        simp [bs_of]
      · rw [List.getElem?_eq_none (by omega), List.getElem?_eq_none (by simp; omega)]
    · cases h
/-- from the row's condition: the table stands first on the list -/
theorem strTab_of_head {P : Program} {W : World} {name : String} {ss : List (List UInt8)} {rest : List (String × DataW Unit)} {g : Nat} {t e : TypeId} {n : Nat}
    (hg : P.globalNamed name = some g) (hty : (P.globals[g]?).map (·.type) = some t) (ht : P.underlying t = some (.array n e)) (he : P.underlying e = some .string) (hce : P.cellsOf e = 1) (hct : P.cellsOf t = n)
    (h : laidMet P ((name, strData ss) :: rest) W) : StrTab P W name ss := by
  obtain ⟨ps, ⟨g', t', cs, fuel, p, q, hg', ht', hvar, hd, _, _⟩, _⟩ := h
  obtain rfl := Option.some.inj (hg.symm.trans hg')
  obtain rfl := Option.some.inj (hty.symm.trans ht')
  unfold StrTab
  rw [hvar, ← cells_of_strs ht he hce hct hd]
/-- what a walk reads at an index of the table -/
theorem StrTab.cell {P : Program} {W : World} {name : String} {ss : List (List UInt8)} {g : Nat} (h : StrTab P W name ss) (hg : P.globalNamed name = some g) (i : Nat) (s : List UInt8) (hi : ss[i]? = some s) : W.cell? ⟨g, i, none⟩ = some (.string (bs s)) := by
  have := World.var?_cell hg h i
  rw [this]
  simp [hi]
end Go.Proofs.YtdgllaiejhnjmaaDoor.strs

/- The tables that the calls of layer 4 read, where the program laid them. No walk in this text. -/
namespace Go.Proofs.YtdgllaiejhnjmaaDoor.mod
open Go.RowKit lex net aggs kit strs

theorem MTabs.of {w : World} {zs ps : List Int} {ks : List (List UInt8)} (hz : zs = (List.range 128).map clsI) (hp : ps = Lib.pow10Tab) (hk : ks = (List.range 7).map fun k : Nat => kw (k : Int)) (hc : Lib.TabIs Tryd.prog w "permitoffice/lexeme.classes" .u8 zs) (hw : Lib.TabIs Tryd.prog w "internal/strconv.uint64pow10" .u64 ps) (hs : StrTab Tryd.prog w "permitoffice/modeltext.kindWords" ks) : MTabs w where
  tabs := Tabs.of hz hp hc hw
  kinds := fun k h6 => hs.cell gKw k (kw k) (by
    rw [hk, List.getElem?_map, List.getElem?_range (by omega)]; rfl)
end Go.Proofs.YtdgllaiejhnjmaaDoor.mod

/- The walk of awake. Condition: the table 'classes' holds what its text lays. -/
namespace Go.Proofs.YtdgllaiejhnjmaaDoor.mod
open Go.RowKit lex net aggs kit strs deck

theorem wake1 : parseR (⟨#[108, 105, 110, 101, 32, 76, 49, 32, 65, 32, 66, 32, 99, 111, 109, 112, 97, 110, 121, 32, 48, 10]⟩ : ByteArray).data.toList = (([], []), 1, 3) := by kernel_rfl
theorem wake2 : parseR (⟨#[110, 111, 100, 101, 32, 65, 32, 99, 117, 115, 116, 111, 109, 101, 114, 115, 32, 50, 32, 99, 111, 109, 112, 97, 110, 121, 32, 48, 10, 105, 110, 102, 101, 101, 100, 32, 83, 32, 65, 32, 99, 111, 109, 112, 97, 110, 121, 32, 49, 10]⟩ : ByteArray).data.toList = (([⟨⟨#[65]⟩, 2, 0⟩], [⟨⟨#[83]⟩, 5, 0, -1, 1⟩]), 0, 0) := by kernel_rfl
set_option maxRecDepth 100000 in
set_option maxHeartbeats 2000000 in
theorem awake_is (w : World) (H : HasClasses w) :
    Calls Tryd.prog 9 #[] w fun e w' => e = .returned (.bool true) ∧ Below w.heap.size w w' := by
  have HH := Lib.hid (fun W (b : Below w.heap.size w W) => H.below b)
  have P1 := Lib.hid (parse_is ⟨#[108, 105, 110, 101, 32, 76, 49, 32, 65, 32, 66, 32, 99, 111, 109, 112, 97, 110, 121, 32, 48, 10]⟩ w H (by decide))
  have P2 := Lib.hid (fun W (b : Below w.heap.size w W) => parse_is ⟨#[110, 111, 100, 101, 32, 65, 32, 99, 117, 115, 116, 111, 109, 101, 114, 115, 32, 50, 32, 99, 111, 109, 112, 97, 110, 121, 32, 48, 10, 105, 110, 102, 101, 101, 100, 32, 83, 32, 65, 32, 99, 111, 109, 112, 97, 110, 121, 32, 49, 10]⟩ W (HH.out W b) (by decide))
  clear H
  go_enter Tryd.func9, Tryd.ntmps9
  go_wp2_with fail
  refine P1.out.mono ?_; rintro e w1 ⟨a, N, c, b, M, d, rfl, -, b1⟩
  rw [wake1]
  have B1 := Lib.hid (b1.alloc b1.size (.cells #[.slice a N c, .slice b M d] 26))
  clear b1
  go_wp2_with fail
  refine (P2.out _ B1.out).mono ?_; rintro e w2 ⟨a2, N2, c2, b2, M2, d2, rfl, hn, bw2⟩
  rw [wake2] at hn ⊢
  have hN := hn.nlen
  have hM := hn.dlen
  have e1 : N2 = 1 := hN.symm
  have e2 : M2 = 1 := hM.symm
  subst e1 e2
  obtain ⟨g, o, rfl, hg, hcn⟩ := hn.nin.some (by decide)
  obtain ⟨g', o', rfl, hg', hcd⟩ := hn.din.some (by decide)
  have bx := below_box w2 (.cells #[.slice (some ⟨g, o, none⟩) 1 c2, .slice (some ⟨g', o', none⟩) 1 d2] 26)
  obtain ⟨-, c1, -⟩ := cells_nd (hcn.below bx) 0 (by decide)
  obtain ⟨-, -, -, d3, -⟩ := cells_dv (hcd.below bx) 0 (by decide)
  have c1' : (w2.alloc (.cells #[.slice (some ⟨g, o, none⟩) 1 c2, .slice (some ⟨g', o', none⟩) 1 d2] 26)).cell? ⟨g, o + 1, none⟩ = some (.int .i64 2) := by simpa using c1
  have d3' : (w2.alloc (.cells #[.slice (some ⟨g, o, none⟩) 1 c2, .slice (some ⟨g', o', none⟩) 1 d2] 26)).cell? ⟨g', o' + 3, none⟩ = some (.int .i64 (-1)) := by simpa using d3
  have BF := Lib.hid (B1.out.trans ((bw2.trans (bx.mono bw2.size)).mono B1.out.size))
  clear hn hN hM hcn hcd bx c1 d3 bw2 hg hg'
  go_wp2
  go_ret
  exact ⟨rfl, BF.out⟩
end Go.Proofs.YtdgllaiejhnjmaaDoor.mod

/- What is kept while a law draws: networks that were read, cells, the deck. No walk in this text. -/
namespace Go.Proofs.YtdgllaiejhnjmaaDoor.net
open Go.RowKit lex aggs kit deck
/-- a network that can be read, apart from block bd -/
def NF (W : World) (bd : Nat) (a b : Option Addr) (N c M d : Nat) (ns : List Nd) (ds : List Dv) : Prop := NetIn W a b N c M d ns ds ∧ (∀ p, a = some p → p.block ≠ bd) ∧ (∀ p, b = some p → p.block ≠ bd)
theorem keeps_gb {W W' : World} {bd : Nat} (h : W.grownBy W' (some bd)) : Keeps W.heap.size bd W W' := ⟨h.size, fun k hk hne => h.block k hk (fun e => hne (by injection e))⟩
theorem NF.keep {W W' : World} {bd : Nat} {a b : Option Addr} {N c M d : Nat} {ns : List Nd} {ds : List Dv} (h : NF W bd a b N c M d ns ds) (g : W.grownBy W' (some bd)) : NetIn W' a b N c M d ns ds :=
  h.1.keeps (keeps_gb g) (Nat.le_refl _) h.2.1 h.2.2
theorem NF.keep2 {W W' : World} {bd : Nat} {a b : Option Addr} {N c M d : Nat} {ns : List Nd} {ds : List Dv} (h : NF W bd a b N c M d ns ds) (g : W.grownBy W' (some bd)) : NF W' bd a b N c M d ns ds := ⟨h.keep g, h.2⟩
theorem gb_tr {W W1 W2 : World} {bd : Nat} (h : W.grownBy W1 (some bd)) (g : W1.grownBy W2 (some bd)) : W.grownBy W2 (some bd) := h.andThen g (fun _ hj => .inr hj)
theorem gb_be {W W1 W2 : World} {bd : Nat} (h : W.grownBy W1 (some bd)) (b : Below W1.heap.size W1 W2) : W.grownBy W2 (some bd) := gb_below h b
theorem gb_cell {W W1 : World} {bd g i : Nat} {v : Value} (h : W.cell? ⟨g, i, none⟩ = some v) (gb : W.grownBy W1 (some bd)) (hne : g ≠ bd) : W1.cell? ⟨g, i, none⟩ = some v := gb.cell h (by simp; exact hne)
section
variable {w0 WS X Y : World} {bd len cap g k : Nat} {a : Option Addr} {v0 v1 u0 u1 : Value}
theorem two_below (h : X.cell? ⟨g, 0, none⟩ = some v0 ∧ X.cell? ⟨g, 1, none⟩ = some v1 ∧ Game w0 X bd a len cap ∧ WS.grownBy X (some bd)) (hg : g ≠ bd) (b : Below X.heap.size X Y) :
    Y.cell? ⟨g, 0, none⟩ = some v0 ∧ Y.cell? ⟨g, 1, none⟩ = some v1 ∧ Game w0 Y bd a len cap ∧ WS.grownBy Y (some bd) := by
  have gb := gb_be (gb_refl X (some bd)) b
  exact ⟨gb_cell h.1 gb hg, gb_cell h.2.1 gb hg, h.2.2.1.by_below b, gb_tr h.2.2.2 gb⟩
theorem four_keep (h : X.cell? ⟨g, 0, none⟩ = some v0 ∧ X.cell? ⟨g, 1, none⟩ = some v1 ∧ X.cell? ⟨k, 0, none⟩ = some u0 ∧ X.cell? ⟨k, 1, none⟩ = some u1 ∧ Game w0 X bd a len cap ∧ WS.grownBy X (some bd)) (hg : g ≠ bd) (hk : k ≠ bd) (gm : Game w0 Y bd a len cap) (gb : X.grownBy Y (some bd)) :
    Y.cell? ⟨g, 0, none⟩ = some v0 ∧ Y.cell? ⟨g, 1, none⟩ = some v1 ∧ Y.cell? ⟨k, 0, none⟩ = some u0 ∧ Y.cell? ⟨k, 1, none⟩ = some u1 ∧ Game w0 Y bd a len cap ∧ WS.grownBy Y (some bd) :=
  ⟨gb_cell h.1 gb hg, gb_cell h.2.1 gb hg, gb_cell h.2.2.1 gb hk, gb_cell h.2.2.2.1 gb hk, gm, gb_tr h.2.2.2.2.2 gb⟩
theorem four_below (h : X.cell? ⟨g, 0, none⟩ = some v0 ∧ X.cell? ⟨g, 1, none⟩ = some v1 ∧ X.cell? ⟨k, 0, none⟩ = some u0 ∧ X.cell? ⟨k, 1, none⟩ = some u1 ∧ Game w0 X bd a len cap ∧ WS.grownBy X (some bd)) (hg : g ≠ bd) (hk : k ≠ bd) (b : Below X.heap.size X Y) :
    Y.cell? ⟨g, 0, none⟩ = some v0 ∧ Y.cell? ⟨g, 1, none⟩ = some v1 ∧ Y.cell? ⟨k, 0, none⟩ = some u0 ∧ Y.cell? ⟨k, 1, none⟩ = some u1 ∧ Game w0 Y bd a len cap ∧ WS.grownBy Y (some bd) :=
  four_keep h hg hk (h.2.2.2.2.1.by_below b) (gb_be (gb_refl X (some bd)) b)
theorem four_game (h : X.cell? ⟨g, 0, none⟩ = some v0 ∧ X.cell? ⟨g, 1, none⟩ = some v1 ∧ X.cell? ⟨k, 0, none⟩ = some u0 ∧ X.cell? ⟨k, 1, none⟩ = some u1 ∧ Game w0 X bd a len cap ∧ WS.grownBy X (some bd)) : Game w0 X bd a len cap ∧ WS.grownBy X (some bd) := h.2.2.2.2
theorem four_drew (h : X.cell? ⟨g, 0, none⟩ = some v0 ∧ X.cell? ⟨g, 1, none⟩ = some v1 ∧ X.cell? ⟨k, 0, none⟩ = some u0 ∧ X.cell? ⟨k, 1, none⟩ = some u1 ∧ Game w0 X bd a len cap ∧ WS.grownBy X (some bd)) :
    X.drew.cell? ⟨g, 0, none⟩ = some v0 ∧ X.drew.cell? ⟨g, 1, none⟩ = some v1 ∧ X.drew.cell? ⟨k, 0, none⟩ = some u0 ∧ X.drew.cell? ⟨k, 1, none⟩ = some u1 ∧ Game w0 X.drew bd a len cap ∧ WS.grownBy X.drew (some bd) :=
  ⟨h.1, h.2.1, h.2.2.1, h.2.2.2.1, h.2.2.2.2.1.drew, gb_drew h.2.2.2.2.2⟩
end
end Go.Proofs.YtdgllaiejhnjmaaDoor.net

/- The walk of Light: a network that was handed in has at most 40 nodes and 80 devices. No condition. -/
namespace Go.Proofs.YtdgllaiejhnjmaaDoor.net
open Go.RowKit lex aggs kit deck
set_option maxRecDepth 100000 in
set_option maxHeartbeats 2000000 in
theorem light_is (a b : Option Addr) (N c M d : Nat) (ns : List Nd) (ds : List Dv) (w : World) (h : NetIn w a b N c M d ns ds) :
    Calls Tryd.prog 8 #[.agg #[.slice a N c, .slice b M d]] w fun e w' => (∃ r : Bool, e = .returned (.bool r)) ∧ Below w.heap.size w w' := by
  have bx := below_box w (.cells #[.slice a N c, .slice b M d] 26)
  have NT := Lib.hid (NtAt.new w (.slice a N c) (.slice b M d) 26)
  have hb := Lib.hid (h.below bx)
  obtain ⟨E, hE⟩ : ∃ E, chk ns ds = E := ⟨_, rfl⟩
  have CK := Lib.hid (rcheck_is a b N c M d ns ds E _ hb.out hE)
  have BX := Lib.hid bx
  clear bx hE h
  obtain ⟨p1, hp1⟩ : ∃ p, decide ((N : Int) ≤ 40) = p := ⟨_, rfl⟩
  obtain ⟨p2, hp2⟩ : ∃ p, decide ((M : Int) ≤ 14) = p := ⟨_, rfl⟩
  obtain ⟨p3, hp3⟩ : ∃ p, decide ((N : Int) ≤ 100) = p := ⟨_, rfl⟩
  obtain ⟨p4, hp4⟩ : ∃ p, decide ((M : Int) ≤ 200) = p := ⟨_, rfl⟩
  by_cases e0 : p1 = true ∧ p2 = true
  · obtain ⟨rfl, rfl⟩ := e0
    go_enter Tryd.func8, Tryd.ntmps8
    go_wp2
    go_ret
    exact ⟨⟨_, rfl⟩, BX.out⟩
  · have e1 : p1 = false ∨ p1 = true ∧ p2 = false := by cases p1 <;> cases p2 <;> simp_all
    clear e0
    by_cases eE : E = 0
    · subst eE
      rcases e1 with rfl | ⟨rfl, rfl⟩
      all_goals (
        go_enter Tryd.func8, Tryd.ntmps8
        go_wp2_with fail
        refine CK.out.mono ?_; rintro e w2 ⟨rfl, b2⟩
        have B2 := Lib.hid (BX.out.trans (b2.mono BX.out.size))
        clear b2
        go_wp2
        go_ret
        exact ⟨⟨_, rfl⟩, B2.out⟩)
    · have T := bne_t eE
      clear eE
      rcases e1 with rfl | ⟨rfl, rfl⟩
      all_goals (cases p3)
      all_goals (cases p4)
      all_goals (
        go_enter Tryd.func8, Tryd.ntmps8
        go_wp2_with fail
        refine CK.out.mono ?_; rintro e w2 ⟨rfl, b2⟩
        have B2 := Lib.hid (BX.out.trans (b2.mono BX.out.size))
        obtain ⟨k1, k2, k3⟩ := NT.out.below b2 NT.out.2.2
        clear b2
        go_wp2
        go_ret
        exact ⟨⟨_, rfl⟩, B2.out⟩)
end Go.Proofs.YtdgllaiejhnjmaaDoor.net

/- A handed network, as the walks are told of it. No walk in this text. -/
namespace Go.Proofs.YtdgllaiejhnjmaaDoor.net
open Go.RowKit Go.ChangeShapes Go.WideShapes Go.Deep Go.Joins lex aggs deck kit

theorem cell_block {P : Program} {W : World} {b0 T e : Nat} {a : Addr} {len cap : Nat} (ht : P.underlying T = some (.slice e)) (h : Cell.okWide P W .any b0 T (.slice (some a) len cap)) : ∃ b off, a = ⟨b, off, none⟩ ∧ b < W.heap.size := by
  simp only [Cell.okWide, Cell.ok, ht] at h
  obtain ⟨-, -, -, hs, row, cells, hsh, -⟩ := h
  obtain ⟨b, off, spot⟩ := a
  simp only at hs hsh
  subst hs
  refine ⟨b, off, rfl, ?_⟩
  rcases Nat.lt_or_ge b W.heap.size with h | h
  · exact h
  · unfold World.shape? at hsh
    rw [Array.getElem?_eq_none h] at hsh
    cases hsh
/-- a row of structs that was handed in -/
theorem rows_trod {α H : Type} [Inhabited α] {P : Program} {en : TypeId × Value → H} {W : World} {base fuel b0 T te k : Nat} {spare : Nat → Bool} {held : Bool} {v : Value} {x : DataW H × List MemPlace} (enc : α → List Value) (good : α → Prop) (hlen : ∀ y, (enc y).length = k) (hk0 : 0 < k)
    (hT : P.underlying T = some (.slice te)) (hk : P.cellsOf te = k) (hv : Cell.okWide P W .any b0 T v)
    (dec : ∀ (n : Nat) (cs : List Value) (x : DataW H × List MemPlace), cs.length = k → DataW.trod en P W base spare held n te cs = some x → ∃ y : α, enc y = cs ∧ good y)
    (h : DataW.trod en P W base spare held fuel T [v] = some x) : ∃ a len cap xs, v = .slice a len cap ∧ xs.length = len ∧ RIn enc k W a xs ∧ (∀ y ∈ xs, good y) ∧ len ≤ cap ∧ cap ≤ maxLen := by
  rcases open_slice hT h with ⟨hcs, _⟩ | ⟨a, len, cap, m, n, D, Pl, hcs, _, hl, hm, hmm, _, hx⟩
  · injection hcs with e
    subst e
    exact ⟨none, 0, 0, [], rfl, rfl, .inl ⟨rfl, rfl⟩, (fun y hy => by cases hy), Nat.le_refl _, Nat.zero_le _⟩
  · injection hcs with e
    subst e
    obtain ⟨b, off, rfl, hb⟩ := cell_block hT hv
    have hlm : len ≤ m := by rw [hmm]; split <;> omega
    obtain ⟨Y, hY⟩ := choose_lt (α := α) (n := len) (p := fun i y => good y ∧ ∀ j, j < k → W.cell? ⟨b, off + i * k + j, none⟩ = (enc y)[j]?) (fun i hi => by
      obtain ⟨cs', h1, h2⟩ := hx i (by omega)
      rw [hk] at h1
      obtain ⟨_, h3, h4⟩ := World.cells?_some h1
      obtain ⟨y, e, hg⟩ := dec n cs' _ h3 h2
      refine ⟨y, hg, fun j hj => ?_⟩
      have := h4 j hj
      rw [add_plain, add_plain] at this
      rw [e]; exact this)
    refine ⟨some ⟨b, off, none⟩, len, cap, (List.range len).map Y, rfl, by simp, .inr ⟨b, off, rfl, hb, fun i u hu => ?_⟩, fun y hy => ?_, hl, hm⟩
    · have hi : i < len * k := by
        have := (List.getElem?_eq_some_iff.1 hu).1
        rw [flat_length hlen] at this
        simpa using this
      have hd : i / k < len := (Nat.div_lt_iff_lt_mul hk0).2 hi
      have hr : i % k < k := Nat.mod_lt _ hk0
      have e : i / k * k + i % k = i := by rw [Nat.mul_comm]; exact Nat.div_add_mod i k
      rw [← e, flat_get hlen _ (i / k) (by simpa using hd) (i % k) hr] at hu
      have := (hY (i / k) hd).2 (i % k) hr
      simp only [List.getElem_map, List.getElem_range] at hu
      rw [hu] at this
      rw [show off + i = off + i / k * k + i % k by omega]
      exact this
    · obtain ⟨i, hi, rfl⟩ := List.mem_map.1 hy
      exact (hY i (by simpa using hi)).1
set_option maxRecDepth 100000 in
theorem nd_dec {H : Type} {enc : TypeId × Value → H} {W : World} {base fuel : Nat} {spare : Nat → Bool} {held : Bool} {cs : List Value} {x : DataW H × List MemPlace} (hl : cs.length = 3)
    (h : DataW.trod enc Tryd.prog W base spare held fuel 51 cs = some x) : ∃ y : Nd, encNd y = cs ∧ y.nm.size ≤ maxLen := by
  obtain ⟨xs, n, -, -, -, hlen, hf⟩ := DataW.trod_struct Tryd.underlying51 h
  have c9 : Tryd.prog.cellsOf 9 = 1 := by kernel_rfl
  have c3 : Tryd.prog.cellsOf 3 = 1 := by kernel_rfl
  match cs, hl with
  | [v0, v1, v2], _ =>
    have h0 := hf 0 _ rfl
    rw [List.getElem?_eq_getElem (by rw [hlen]; decide)] at h0
    have h0 : DataW.trod enc Tryd.prog W base spare held n 9 (([v0, v1, v2].drop 0).take (Tryd.prog.cellsOf 9)) = some _ := h0
    rw [c9] at h0
    have h0 : DataW.trod enc Tryd.prog W base spare held n 9 [v0] = some _ := h0
    have h1 := hf 1 _ rfl
    rw [List.getElem?_eq_getElem (by rw [hlen]; decide)] at h1
    have h1 : DataW.trod enc Tryd.prog W base spare held n 3 (([v0, v1, v2].drop 1).take (Tryd.prog.cellsOf 3)) = some _ := h1
    rw [c3] at h1
    have h1 : DataW.trod enc Tryd.prog W base spare held n 3 [v1] = some _ := h1
    have h2 := hf 2 _ rfl
    rw [List.getElem?_eq_getElem (by rw [hlen]; decide)] at h2
    have h2 : DataW.trod enc Tryd.prog W base spare held n 3 (([v0, v1, v2].drop 2).take (Tryd.prog.cellsOf 3)) = some _ := h2
    rw [c3] at h2
    have h2 : DataW.trod enc Tryd.prog W base spare held n 3 [v2] = some _ := h2
    obtain ⟨s0, e0, -, z0⟩ := DataW.trod_string Tryd.underlying9 h0
    injection e0 with e0
    subst e0
    obtain ⟨n1, e1, -, z1⟩ := DataW.trod_int Tryd.underlying3 h1
    injection e1 with e1
    subst e1
    have b1 := bounds_i64 z1
    obtain ⟨n2, e2, -, z2⟩ := DataW.trod_int Tryd.underlying3 h2
    injection e2 with e2
    subst e2
    have b2 := bounds_i64 z2
    exact ⟨⟨s0, n1, n2⟩, rfl, z0⟩
set_option maxRecDepth 100000 in
theorem dv_dec {H : Type} {enc : TypeId × Value → H} {W : World} {base fuel : Nat} {spare : Nat → Bool} {held : Bool} {cs : List Value} {x : DataW H × List MemPlace} (hl : cs.length = 5)
    (h : DataW.trod enc Tryd.prog W base spare held fuel 47 cs = some x) : ∃ y : Dv, encDv y = cs ∧ Fits y := by
  obtain ⟨xs, n, -, -, -, hlen, hf⟩ := DataW.trod_struct Tryd.underlying47 h
  have c9 : Tryd.prog.cellsOf 9 = 1 := by kernel_rfl
  have c3 : Tryd.prog.cellsOf 3 = 1 := by kernel_rfl
  match cs, hl with
  | [v0, v1, v2, v3, v4], _ =>
    have h0 := hf 0 _ rfl
    rw [List.getElem?_eq_getElem (by rw [hlen]; decide)] at h0
    have h0 : DataW.trod enc Tryd.prog W base spare held n 9 (([v0, v1, v2, v3, v4].drop 0).take (Tryd.prog.cellsOf 9)) = some _ := h0
    rw [c9] at h0
    have h0 : DataW.trod enc Tryd.prog W base spare held n 9 [v0] = some _ := h0
    have h1 := hf 1 _ rfl
    rw [List.getElem?_eq_getElem (by rw [hlen]; decide)] at h1
    have h1 : DataW.trod enc Tryd.prog W base spare held n 3 (([v0, v1, v2, v3, v4].drop 1).take (Tryd.prog.cellsOf 3)) = some _ := h1
    rw [c3] at h1
    have h1 : DataW.trod enc Tryd.prog W base spare held n 3 [v1] = some _ := h1
    have h2 := hf 2 _ rfl
    rw [List.getElem?_eq_getElem (by rw [hlen]; decide)] at h2
    have h2 : DataW.trod enc Tryd.prog W base spare held n 3 (([v0, v1, v2, v3, v4].drop 2).take (Tryd.prog.cellsOf 3)) = some _ := h2
    rw [c3] at h2
    have h2 : DataW.trod enc Tryd.prog W base spare held n 3 [v2] = some _ := h2
    have h3 := hf 3 _ rfl
    rw [List.getElem?_eq_getElem (by rw [hlen]; decide)] at h3
    have h3 : DataW.trod enc Tryd.prog W base spare held n 3 (([v0, v1, v2, v3, v4].drop 3).take (Tryd.prog.cellsOf 3)) = some _ := h3
    rw [c3] at h3
    have h3 : DataW.trod enc Tryd.prog W base spare held n 3 [v3] = some _ := h3
    have h4 := hf 4 _ rfl
    rw [List.getElem?_eq_getElem (by rw [hlen]; decide)] at h4
    have h4 : DataW.trod enc Tryd.prog W base spare held n 3 (([v0, v1, v2, v3, v4].drop 4).take (Tryd.prog.cellsOf 3)) = some _ := h4
    rw [c3] at h4
    have h4 : DataW.trod enc Tryd.prog W base spare held n 3 [v4] = some _ := h4
    obtain ⟨s0, e0, -, z0⟩ := DataW.trod_string Tryd.underlying9 h0
    injection e0 with e0
    subst e0
    obtain ⟨n1, e1, -, z1⟩ := DataW.trod_int Tryd.underlying3 h1
    injection e1 with e1
    subst e1
    have b1 := bounds_i64 z1
    obtain ⟨n2, e2, -, z2⟩ := DataW.trod_int Tryd.underlying3 h2
    injection e2 with e2
    subst e2
    have b2 := bounds_i64 z2
    obtain ⟨n3, e3, -, z3⟩ := DataW.trod_int Tryd.underlying3 h3
    injection e3 with e3
    subst e3
    have b3 := bounds_i64 z3
    obtain ⟨n4, e4, -, z4⟩ := DataW.trod_int Tryd.underlying3 h4
    injection e4 with e4
    subst e4
    have b4 := bounds_i64 z4
    exact ⟨⟨s0, n1, n2, n3, n4⟩, rfl, ⟨b2.1, b2.2, b3.1, b3.2, z0⟩⟩
set_option maxRecDepth 100000 in
theorem net_arg {H : Type} {enc : TypeId × Value → H} {W : World} {base b0 : Nat} {spare : Nat → Bool} {held : Bool} {v : Value} {d : DataW H} {p : List MemPlace}
    (hv : Value.okWide Tryd.prog W .any b0 26 v) (h : DataW.Trod enc Tryd.prog W base spare held 26 v d p) :
    ∃ a b N c M e ns ds, v = .agg #[.slice a N c, .slice b M e] ∧ NetIn W a b N c M e ns ds := by
  obtain ⟨v0, v1, y0, y1, n, rfl, -, -, t0, t1⟩ := open_agg2 Tryd.underlying26 (by kernel_rfl) (by kernel_rfl) hv h
  simp only [Value.okWide, Tryd.underlying26] at hv
  obtain ⟨cs, e, -, ts, hts, -, hrow⟩ := hv
  injection e with e
  subst e
  obtain rfl : ts = [23, 24] := by
    have : Tryd.prog.cellTypes Tryd.prog.depth 26 = some [23, 24] := by kernel_rfl
    rw [this] at hts; injection hts with hts; exact hts.symm
  obtain ⟨u0, e0, k0⟩ := hrow 0 v0 rfl
  obtain ⟨u1, e1, k1⟩ := hrow 1 v1 rfl
  obtain rfl : u0 = 23 := by simpa using e0.symm
  obtain rfl : u1 = 24 := by simpa using e1.symm
  obtain ⟨a, N, c, ns, rfl, l1, r1, g1, c1, c2⟩ := rows_trod encNd (fun y => y.nm.size ≤ maxLen) encNd_len (by decide) Tryd.underlying23 (by kernel_rfl) k0 (fun _ _ _ hl h => nd_dec hl h) t0
  obtain ⟨b, M, e, ds, rfl, l2, r2, g2, d1, d2⟩ := rows_trod encDv Fits encDv_len (by decide) Tryd.underlying24 (by kernel_rfl) k1 (fun _ _ _ hl h => dv_dec hl h) t1
  exact ⟨a, b, N, c, M, e, ns, ds, rfl, ⟨l1, l2, r1, r2, g1, g2, c1, c2, d1, d2⟩⟩
end Go.Proofs.YtdgllaiejhnjmaaDoor.net

/- The walks of the reference of layer 1, third part: Words, Lines. -/
namespace Go.Proofs.YtdgllaiejhnjmaaDoor.lex
open Go.RowKit strs kit

/-- the reference's loop goes one step beyond the end -/
def RInv (l : List UInt8) (W : List (List UInt8)) (b k : Nat) : Prop := (k ≤ l.length ∧ words l = W ++ wordsF (part l b k) (l.drop k)) ∨ (k = l.length + 1 ∧ words l = W)
theorem words_start (l : List UInt8) : words l = [] ++ wordsF (part l 0 0) (l.drop 0) := by rw [part_self]; rfl

set_option maxRecDepth 100000 in
set_option maxHeartbeats 1000000 in
theorem rwords_any (s : ByteArray) (w : World) (hs : s.size ≤ 1099511627776) :
    Calls Tryd.prog 36 #[.string s] w (WordsPost s.data.toList w) := by
  have hl : s.data.toList.length = s.size := by simp
  obtain ⟨i0, hi, hz0, hz1, hz2⟩ := info_parts info9
  go_enter Tryd.func36, Tryd.ntmps36
  go_wp2
  go_loopw [3, 4, 5] (fun v st i wr => ∃ (k b : Nat) (W : List (List UInt8)), k ≤ s.size + 1 ∧ b ≤ k ∧ i = .int .i64 k ∧ st = .int .i64 b ∧ StrsAt wr w.heap.size v W ∧ W.length ≤ k ∧ Below w.heap.size w wr ∧ RInv s.data.toList W b k) (fun _ _ i _ => s.size + 1 - (intOf i).toNat)
  case atStart => exact ⟨0, 0, [], Nat.zero_le _, Nat.le_refl _, rfl, rfl, StrsAt.nil _ _, Nat.le_refl _, Below.refl _ _, .inl ⟨Nat.zero_le _, words_start _⟩⟩
  case round =>
    obtain ⟨k, b, W, hk, hbk, rfl, rfl, hown, hW, hbl, hinv⟩ := hrel
    by_cases hle : k ≤ s.size
    · have hwd : words s.data.toList = W ++ wordsF (part s.data.toList b k) (s.data.toList.drop k) := by
        rcases hinv with h | h
        · exact h.2
        · have := h.1; omega
      clear hinv
      have tle : decide ((k : Int) ≤ (s.size : Int)) = true := decide_eq_true (by omega)
      by_cases hlt : k < s.size
      · have tk : ((k : Int) == (s.size : Int)) = false := by rw [beq_eq_false_iff_ne]; omega
        by_cases hsp : s[k] = 32
        · have ts : ((s[k].toNat : Int) == 32) = true := by rw [hsp]; rfl
          by_cases hne : b < k
          · have hnext : RInv s.data.toList (W ++ [part s.data.toList b k]) (k + 1) (k + 1) := .inl ⟨by omega, step_space hwd (by omega) hsp hne⟩
            have hx : Hid (s.extract b k = bs (part s.data.toList b k)) := extract_bs s b k
            clear hsp hwd
            go_wp2_with (at_builtin; go_must (refine wpList_append_own _ rfl _ _ 37 rfl w.heap.size 9 i0 (.string ByteArray.empty) 1 16 Tryd.underlying37 hi hz0 hz1 hz2 rfl (by decide) _ _ _ rfl (World.ownsRow.alloc hown _) ⟨wr.heap.size, 0, none⟩ 1 1 [.string (s.extract b k)] rfl rfl (cell_one_new _ _ _) (fun x hx => by simp at hx; subst hx; rfl) (by unfold maxLen; omega) (by omega) (by have := hbl.size; simp; omega) ?_); intro v' w1 hown' hgrow _)
            have hpush := StrsAt.push (by rw [← hx.out]; exact hown')
            have hb2 := (hbl.alloc hbl.size _).grown hgrow (by have := hbl.size; simp; omega) (fun k hk => (World.ownsRow.lt hown k hk).1)
            clear hown' hgrow hown hbl
            go_wp2
            go_roundw
            case rel => exact ⟨k + 1, k + 1, _, by omega, by omega, by go_num, by go_num, hpush, by simp; omega, hb2, hnext⟩
            case measure => simp [intOf] <;> omega
          · obtain rfl : b = k := by omega
            have hnext : RInv s.data.toList W (b + 1) (b + 1) := .inl ⟨by omega, step_space0 hwd (by omega) hsp⟩
            clear hsp hwd
            go_wp2
            go_roundw
            case rel => exact ⟨b + 1, b + 1, W, by omega, by omega, by go_num, by go_num, hown, by omega, hbl, hnext⟩
            case measure => simp [intOf] <;> omega
        · have ts : ((s[k].toNat : Int) == 32) = false := by
            rw [beq_eq_false_iff_ne]; intro e; exact hsp (UInt8.toNat_inj.1 (by show s[k].toNat = 32; omega))
          have hnext : RInv s.data.toList W b (k + 1) := .inl ⟨by omega, step_other hwd (by omega) hsp hbk⟩
          clear hsp hwd
          go_wp2
          go_roundw
          case rel => exact ⟨k + 1, b, W, by omega, by omega, by go_num, rfl, hown, by omega, hbl, hnext⟩
          case measure => simp [intOf] <;> omega
      · have hks : k = s.size := by omega
        subst hks
        have tk : ((s.size : Int) == (s.size : Int)) = true := beq_self_eq_true _
        by_cases hne : b < s.size
        · have hnext : RInv s.data.toList (W ++ [part s.data.toList b s.size]) (s.size + 1) (s.size + 1) := .inr ⟨by omega, step_end hwd (by omega) hne⟩
          have hx : Hid (s.extract b s.size = bs (part s.data.toList b s.size)) := extract_bs s b s.size
          clear hwd
          go_wp2_with (at_builtin; go_must (refine wpList_append_own _ rfl _ _ 37 rfl w.heap.size 9 i0 (.string ByteArray.empty) 1 16 Tryd.underlying37 hi hz0 hz1 hz2 rfl (by decide) _ _ _ rfl (World.ownsRow.alloc hown _) ⟨wr.heap.size, 0, none⟩ 1 1 [.string (s.extract b s.size)] rfl rfl (cell_one_new _ _ _) (fun x hx => by simp at hx; subst hx; rfl) (by unfold maxLen; omega) (by omega) (by have := hbl.size; simp; omega) ?_); intro v' w1 hown' hgrow _)
          have hpush := StrsAt.push (by rw [← hx.out]; exact hown')
          have hb2 := (hbl.alloc hbl.size _).grown hgrow (by have := hbl.size; simp; omega) (fun k hk => (World.ownsRow.lt hown k hk).1)
          clear hown' hgrow hown hbl
          go_wp2
          go_roundw
          case rel => exact ⟨s.size + 1, s.size + 1, _, by omega, by omega, by go_num, by go_num, hpush, by simp; omega, hb2, hnext⟩
          case measure => simp [intOf] <;> omega
        · obtain rfl : b = s.size := by omega
          have hnext : RInv s.data.toList W (s.size + 1) (s.size + 1) := .inr ⟨by omega, step_end0 hwd (by omega)⟩
          clear hwd
          go_wp2
          go_roundw
          case rel => exact ⟨s.size + 1, s.size + 1, W, by omega, by omega, by go_num, by go_num, hown, by omega, hbl, hnext⟩
          case measure => simp [intOf] <;> omega
    · have hwd : Hid (words s.data.toList = W) := by
        rcases hinv with h | h
        · have := h.1; omega
        · exact h.2
      clear hinv
      go_wp2
      go_ret
      exact ⟨_, rfl, by rw [hwd.out]; exact hown, hbl⟩

theorem linesF_last (r : List UInt8) : ∀ cur, (∀ (h : r ≠ []), r.getLast h ≠ 10) → (r ≠ [] ∨ cur ≠ []) → linesF cur r = none := by
  induction r with
  | nil =>
    intro cur _ h
    rcases h with h | h
    · exact absurd rfl h
    · rw [linesF, if_neg h]
  | cons c r ih =>
    intro cur hl _
    rw [linesF]
    by_cases hr : r = []
    · subst hr
      have : c ≠ 10 := hl (by simp)
      rw [if_neg this]
      split
      · rw [linesF, if_neg (by simp)]
      · rfl
    · have hl' : ∀ (h : r ≠ []), r.getLast h ≠ 10 := fun h => by have := hl (by simp); rwa [List.getLast_cons h] at this
      split
      · rw [ih [] hl' (.inl hr)]; rfl
      · split
        · rw [ih _ hl' (.inl hr)]
        · rfl
theorem lines_last {l : List UInt8} (h : 0 < l.length) (hl : l[l.length - 1] ≠ 10) : lines l = none := by
  unfold lines; split
  · rfl
  · have hne : l ≠ [] := fun e => by rw [e] at h; exact absurd h (Nat.lt_irrefl 0)
    exact linesF_last l [] (fun h' => by rw [List.getLast_eq_getElem]; exact hl) (.inl hne)

/-- the line that is being read is empty exactly behind a line feed -/
def LEnd (l : List UInt8) (b k : Nat) : Prop := b = k ∨ (0 < k ∧ ∀ (h : k - 1 < l.length), l[k - 1] ≠ 10)
theorem LEnd.done {l : List UInt8} {b k : Nat} (h : LEnd l b k) (hk : k = l.length) (he : ∀ (h : 0 < l.length), l[l.length - 1] = 10) : b = k := by
  subst hk
  rcases h with h | ⟨h0, h⟩
  · exact h
  · exact absurd (he h0) (h (by omega))

set_option maxRecDepth 100000 in
set_option maxHeartbeats 2000000 in
theorem rlines_any (s : ByteArray) (w : World) (hs : s.size ≤ maxLen) :
    Calls Tryd.prog 35 #[.string s] w (LinesPost (lines s.data.toList) w) := by
  have hl : s.data.toList.length = s.size := by simp
  unfold maxLen at hs
  obtain ⟨i0, hi, hz0, hz1, hz2⟩ := info_parts info9
  obtain ⟨r, hr⟩ : ∃ r, lines s.data.toList = r := ⟨_, rfl⟩
  rw [hr]
  by_cases hbig : 65536 < s.size
  · have e : r = none := by rw [← hr]; unfold lines; rw [if_pos (by omega)]
    subst e
    have t1 : decide (65536 < (s.size : Int)) = true := decide_eq_true (by omega)
    clear hr hl
    go_enter Tryd.func35, Tryd.ntmps35
    go_wp2
    go_ret2
    exact ⟨_, rfl, StrsAt.nil _ _, Below.refl _ _⟩
  · have t1 : decide (65536 < (s.size : Int)) = false := decide_eq_false (by omega)
    have HR : Hid (linesF [] s.data.toList = r) := by rw [← hr]; unfold lines; rw [if_neg (by omega)]; rfl
    by_cases hz : s.size = 0
    · have t2 : decide (0 < (s.size : Int)) = false := decide_eq_false (by omega)
      have e : r = some [] := by rw [← HR.out, List.eq_nil_of_length_eq_zero (hl.trans hz)]; rfl
      subst e
      clear hr
      go_enter Tryd.func35, Tryd.ntmps35
      go_wp2
      refine wp_loop_rounds 1 ?_; rw [rounds_succ]
      go_wp2
      go_ret2
      exact ⟨_, rfl, StrsAt.nil _ _, Below.refl _ _⟩
    · have hpos : 0 < s.size := by omega
      have t2 : decide (0 < (s.size : Int)) = true := decide_eq_true (by omega)
      by_cases hend : s[s.size - 1] = 10
      · have t3 : ((s[s.size - 1].toNat : Int) != 10) = false := by rw [hend]; rfl
        have HE : Hid (∀ (h : 0 < s.data.toList.length), s.data.toList[s.data.toList.length - 1] = 10) := fun _ => hend
        clear hr hend
        go_enter Tryd.func35, Tryd.ntmps35
        go_wp2
        go_loopw [4, 5, 6] (fun v st i wr => ∃ (k b : Nat) (W : List (List UInt8)), k ≤ s.size ∧ b ≤ k ∧ i = .int .i64 k ∧ st = .int .i64 b ∧ StrsAt wr w.heap.size v W ∧ W.length ≤ k ∧ Below w.heap.size w wr ∧ LInv s.data.toList W b k ∧ LEnd s.data.toList b k) (fun _ _ i _ => s.size - (intOf i).toNat)
        case atStart => exact ⟨0, 0, [], Nat.zero_le _, Nat.le_refl _, rfl, rfl, StrsAt.nil _ _, Nat.le_refl _, Below.refl _ _, LInv.start _, .inl rfl⟩
        case round =>
          obtain ⟨k, b, W, hk, hbk, rfl, rfl, hown, hW, hbl, hwd, hle⟩ := hrel
          by_cases hlt : k < s.size
          · by_cases hsp : s[k] = 10
            · have ts : ((s[k].toNat : Int) == 10) = true := by rw [hsp]; rfl
              have hnext := LInv.feed hwd (by omega) hsp
              have hx : Hid (s.extract b k = bs (part s.data.toList b k)) := extract_bs s b k
              clear hsp hwd hle
              go_wp2_with (at_builtin; go_must (refine wpList_append_own _ rfl _ _ 37 rfl w.heap.size 9 i0 (.string ByteArray.empty) 1 16 Tryd.underlying37 hi hz0 hz1 hz2 rfl (by decide) _ _ _ rfl (World.ownsRow.alloc hown _) ⟨wr.heap.size, 0, none⟩ 1 1 [.string (s.extract b k)] rfl rfl (cell_one_new _ _ _) (fun x hx => by simp at hx; subst hx; rfl) (by unfold maxLen; omega) (by omega) (by have := hbl.size; simp; omega) ?_); intro v' w1 hown' hgrow _)
              have hpush := StrsAt.push (by rw [← hx.out]; exact hown')
              have hb2 := (hbl.alloc hbl.size _).grown hgrow (by have := hbl.size; simp; omega) (fun k hk => (World.ownsRow.lt hown k hk).1)
              clear hown' hgrow hown hbl
              go_wp2
              go_roundw
              case rel => exact ⟨k + 1, k + 1, _, by omega, by omega, by go_num, by go_num, hpush, by simp; omega, hb2, hnext, .inl rfl⟩
              case measure => simp [intOf] <;> omega
            · have ts : ((s[k].toNat : Int) == 10) = false := by
                rw [beq_eq_false_iff_ne]; intro e; exact hsp (UInt8.toNat_inj.1 (by show s[k].toNat = 10; omega))
              by_cases ht : isT s[k] = true
              · have hnext := LInv.text hwd hbk (by omega) hsp ht
                have hle2 : LEnd s.data.toList b (k + 1) := .inr ⟨by omega, fun _ => hsp⟩
                have hb := of_decide_eq_true ht
                obtain ⟨hb1, hb2⟩ := hb
                have c1 : (32 : Int) ≤ (s[k].toNat : Int) := by omega
                have c2 : (s[k].toNat : Int) ≤ 126 := by omega
                clear hsp ht hwd hle hb1 hb2
                go_wp2
                go_roundw
                case rel => exact ⟨k + 1, b, W, by omega, by omega, by go_num, rfl, hown, by omega, hbl, hnext, hle2⟩
                case measure => simp [intOf] <;> omega
              · have e : r = none := by rw [← HR.out]; exact LInv.foreign hwd (by omega) hsp (Bool.eq_false_iff.2 ht)
                subst e
                have hb := of_decide_eq_false (Bool.eq_false_iff.2 ht)
                by_cases hlo : s[k].toNat < 32
                · have c1 : decide ((s[k].toNat : Int) < 32) = true := decide_eq_true (by omega)
                  clear hsp ht hwd hb
                  go_wp2
                  go_ret2
                  exact ⟨_, rfl, StrsAt.nil _ _, hbl⟩
                · have c1 : decide ((s[k].toNat : Int) < 32) = false := decide_eq_false (by omega)
                  have c2 : decide (126 < (s[k].toNat : Int)) = true := decide_eq_true (by omega)
                  clear hsp ht hwd hb
                  go_wp2
                  go_ret2
                  exact ⟨_, rfl, StrsAt.nil _ _, hbl⟩
          · have hks : k = s.size := by omega
            subst hks
            have hbb : b = s.size := LEnd.done hle (by omega) HE.out
            subst hbb
            have e : r = some W := by rw [← HR.out]; exact LInv.done hwd (by omega)
            subst e
            clear hwd hle
            go_wp2
            go_ret2
            exact ⟨_, rfl, hown, hbl⟩
      · have t3 : ((s[s.size - 1].toNat : Int) != 10) = true := by
          rw [bne_iff_ne]; intro e; exact hend (UInt8.toNat_inj.1 (by show s[s.size - 1].toNat = 10; omega))
        have e : r = none := by rw [← hr]; exact lines_last (by omega) hend
        subst e
        clear hr hend
        go_enter Tryd.func35, Tryd.ntmps35
        go_wp2
        go_ret2
        exact ⟨_, rfl, StrsAt.nil _ _, Below.refl _ _⟩
end Go.Proofs.YtdgllaiejhnjmaaDoor.lex

/- The walk of the reference's Number. It computes what the program's own function computes. -/
namespace Go.Proofs.YtdgllaiejhnjmaaDoor.lex
open Go.RowKit
set_option maxRecDepth 100000 in
set_option maxHeartbeats 1000000 in
theorem rnumber_any (s : ByteArray) (most : Int) (w : World) (hs : s.size ≤ maxLen) (m0 : -9223372036854775808 ≤ most) (m1 : most ≤ 9223372036854775807) :
    Calls Tryd.prog 48 #[.string s, .int .i64 most] w fun e w' => e = .returned (.tuple #[.int .i64 (numV s.data.toList most), .bool (numB s.data.toList most)]) ∧ w = w' := by
  unfold maxLen at hs
  have hl : s.data.toList.length = s.size := by simp
  by_cases e0 : s.size = 0
  · have hb := numB_empty most (hl.trans e0)
    have hv := numV_no hb
    rw [hb, hv]
    have t1 : decide ((s.size : Int) < 1) = true := decide_eq_true (by omega)
    clear hb hv hl
    go_enter Tryd.func48, Tryd.ntmps48
    go_wp2
    go_ret2
    exact ⟨rfl, rfl⟩
  · have e0' : 0 < s.size := by omega
    have t1 : decide ((s.size : Int) < 1) = false := decide_eq_false (by omega)
    by_cases e1 : 1 < s.size ∧ s[0].toNat = 48
    · obtain ⟨e2, e3⟩ := e1
      have hb := numB_zero (l := s.data.toList) most (by omega) e3
      have hv := numV_no hb
      rw [hb, hv]
      have t2 : decide (1 < (s.size : Int)) = true := decide_eq_true (by omega)
      have z3 : ((s[0].toNat : Int) == 48) = true := by rw [beq_iff_eq]; omega
      clear hb hv hl e3
      go_enter Tryd.func48, Tryd.ntmps48
      go_wp2
      go_ret2
      exact ⟨rfl, rfl⟩
    · have hz : 1 < s.size → ((s[0].toNat : Int) == 48) = false := by
        intro h1; rw [beq_eq_false_iff_ne]; intro h2; exact e1 ⟨h1, by omega⟩
      have E1 := Lib.hid e1
      clear e1
      by_cases e2 : 1 < s.size
      all_goals
        first | (have t2 : decide (1 < (s.size : Int)) = true := decide_eq_true (by omega)) | (have t2 : decide (1 < (s.size : Int)) = false := decide_eq_false (by omega))
        try (have hz' := hz e2)
        clear hz
        go_enter Tryd.func48, Tryd.ntmps48
        go_wp2
        go_loop [6, 7] (fun n i => ∃ (k v : Nat), k ≤ s.size ∧ i = .int .i64 k ∧ n = .int .i64 v ∧ v ≤ 9223372036854775807 ∧ Hid (v = val (s.data.toList.take k)) ∧ Hid (∀ j (hj : j < s.data.toList.length), j < k → isD s.data.toList[j] = true)) (fun _ i => s.size - (intOf i).toNat)
        case atStart => exact ⟨0, 0, Nat.zero_le _, rfl, rfl, Nat.zero_le _, rfl, fun j hj h => absurd h (Nat.not_lt_zero j)⟩
        case round =>
          obtain ⟨k, v, hk, rfl, rfl, hv9, hv, hd⟩ := hrel
          by_cases hlt : k < s.size
          · by_cases hdig : isD s[k] = true
            · have hb := of_decide_eq_true hdig
              obtain ⟨hb1, hb2⟩ := hb
              have HD := Lib.hid hdig
              clear hdig
              have hvs : Hid (val (s.data.toList.take (k + 1)) = v * 10 + (s[k].toNat - 48)) := by
                rw [take_snoc _ _ (by omega), val_snoc, hv.out]; rfl
              by_cases hgr : (9223372036854775807 - ((s[k].toNat : Int) - 48)) / 10 < v
              · have hbig : Hid (numB s.data.toList most = false) := numB_great most (k := k + 1) (by rw [hvs.out]; omega)
                go_wp2_with (go_at_call 51; refine (digit_is _ true HD.out _).mono ?_; rintro e w' ⟨rfl, rfl⟩)
                go_ret2
                exact ⟨ret_num (numV_no hbig.out).symm hbig.out.symm, rfl⟩
              · have g2 : (v : Int) ≤ (9223372036854775807 - ((s[k].toNat : Int) - 48)) / 10 := by omega
                clear hgr
                have g3 : (v : Int) * 10 + ((s[k].toNat : Int) - 48) ≤ 9223372036854775807 := by omega
                have g4 : 10 * (v : Int) + ((s[k].toNat : Int) - 48) ≤ 9223372036854775807 := by omega
                go_wp2_with (go_at_call 51; refine (digit_is _ true HD.out _).mono ?_; rintro e w' ⟨rfl, rfl⟩)
                go_round
                case rel =>
                  refine ⟨k + 1, v * 10 + (s[k].toNat - 48), by omega, by go_num, congrArg _ (by omega), by omega, hvs.out.symm, ?_⟩
                  intro j hj hjk
                  by_cases e : j = k
                  · subst e; exact HD.out
                  · exact hd.out j hj (by omega)
                case measure => simp [intOf]; omega
            · have hn := Lib.hid (numB_other (l := s.data.toList) most (k := k) (by omega) (Bool.eq_false_iff.2 hdig))
              have HD := Lib.hid (Bool.eq_false_iff.2 hdig)
              clear hdig
              go_wp2_with (go_at_call 51; refine (digit_is _ false HD.out _).mono ?_; rintro e w' ⟨rfl, rfl⟩)
              go_ret2
              exact ⟨ret_num (numV_no hn.out).symm hn.out.symm, rfl⟩
          · have hk' : k = s.size := by omega
            have hall : s.data.toList.take k = s.data.toList := List.take_of_length_le (by omega)
            have hvv : v = val s.data.toList := by rw [hv.out, hall]
            by_cases hmost : (v : Int) ≤ most
            · have hy := Lib.hid (numB_yes (l := s.data.toList) (most := most) (by omega) (fun hh => E1.out ⟨by omega, hh.2⟩) (fun j hj => hd.out j hj (by omega)) (by rw [← hvv]; exact hmost))
              have HV := Lib.hid hvv
              clear hk' hall hvv
              go_wp2
              go_ret2
              exact ⟨ret_num (by rw [numV_yes hy.out, HV.out]) hy.out.symm, rfl⟩
            · have hbig : Hid (numB s.data.toList most = false) := numB_great most (k := k) (by rw [hall, ← hvv]; omega)
              clear hk' hall hvv
              go_wp2
              go_ret2
              exact ⟨ret_num (numV_no hbig.out).symm hbig.out.symm, rfl⟩
end Go.Proofs.YtdgllaiejhnjmaaDoor.lex

/- A drawn region by an invariant, third form: what holds of the world may speak of the slots. No program in this text. -/
namespace Go.Proofs.YtdgllaiejhnjmaaDoor.inv

def StepOk3 (P : Program) (ops : Array Oper) (Q : Exit → Act → World → Prop) (a : Act) (S : (Nat → Bool) → (Nat → Value) → World → Prop) (D : Nat → Value → World → Prop) (i : Nat) (o : Oper) : Prop :=
  ∀ vs w (done : Nat → Bool), S done vs w → (∀ j, (waits ops i).contains j = true → D j (vs j) w) → (∀ j, (waits ops j).contains i = true → done j = false) → (∀ j, j < ops.size → done j = false → vs j = held a ops j) → (∀ j, j < ops.size → done j = true → ∀ k, (waits ops j).contains k = true → done k = true) → done i = false → ∀ K : Act → World → Prop,
    (∀ v w' a', (putL (dsts ops) a vs).put o.dst v = a' → S (fun j => if j = i then true else done j) (upd vs i v) w' → D i v w' → (∀ j v', j ≠ i → done j = true → D j v' w → D j v' w') → K a' w') →
    if Region.wanted o (yielded ops (putL (dsts ops) a vs).tmps) = true then Oper.wp P o (putL (dsts ops) a vs) w K Q else K ((putL (dsts ops) a vs).put o.dst undef) w
/-- the rule: S is what holds of the world, by what has been done; D what an operation leaves in its slot. The operations are numbered; is: 0, 1, .. -/
theorem wp_region_inv30 {P : Program} {ops : Array Oper} {Q : Exit → Act → World → Prop} {id : Nat} {a : Act} {w : World} (S : (Nat → Bool) → (Nat → Value) → World → Prop) (D : Nat → Value → World → Prop)
    (hm : P.follows .mixedOrders = true) (hok : okL (dsts ops) = true) (hlow : ((List.range ops.size).all fun i => (waits ops i).all (· < i)) = true) (hS : S (fun _ => false) (held a ops) w.drew) (hs : ∀ i o, ops[i]? = some o → StepOk3 P ops Q a S D i o)
    (hend : ∀ vs w' done, (∀ j, j < ops.size → done j = true) → S done vs w' → (∀ j, j < ops.size → D j (vs j) w') → Q .normal (putL (dsts ops) a vs) w') : (Code.region id ops true).wp P Q a w := by
  have hin : ∀ i o, ops[i]? = some o → (i, o.dst) ∈ dsts ops := fun i o ho => by
    unfold dsts
    rw [List.mem_map]
    exact ⟨i, List.mem_range.2 (by by_cases e : i < ops.size; exact e; rw [Array.getElem?_eq_none (by omega)] at ho; cases ho), by rw [ho]; rfl⟩
  have hget : ∀ (listed : Array Bool) i j, listed.size = ops.size → i < ops.size → (listed.setIfInBounds i true).getD j false = if j = i then true else listed.getD j false := fun listed i j hsz hi => by
    rw [Array.getD_eq_getD_getElem?, Array.getD_eq_getD_getElem?, Array.getElem?_setIfInBounds]
    by_cases e : j = i
    · subst e; rw [if_pos rfl, if_pos (by omega), if_pos rfl]; rfl
    · rw [if_neg (fun h => e h.symm), if_neg e]
  refine wp_region_any hm (inv_any (fun listed a' w' => listed.size = ops.size ∧ (∀ j, j < ops.size → listed.getD j false = true → ∀ k ∈ waits ops j, listed.getD k false = true) ∧ ∃ vs, a' = putL (dsts ops) a vs ∧ S (fun j => listed.getD j false) vs w' ∧ (∀ j, j < ops.size → listed.getD j false = true → D j (vs j) w') ∧ ∀ j, j < ops.size → listed.getD j false = false → vs j = held a ops j) ?_ ?_ _ _ _ _ ?_ ?_)
  · rintro listed a' w' ⟨hsz, hcl, vs, rfl, hS, hD, hH⟩ i hi
    obtain ⟨h1, h2, o, ho, h3⟩ := ready_is hi
    have hst := hs i o ho
    have hno : listed.getD i false = false := by
      rw [Array.getD_eq_getD_getElem?, Array.getElem?_eq_getElem (by omega)] at h2 ⊢
      simpa using h2
    have hbound : ∀ j, listed.getD j false = true → j < ops.size := fun j hj => by
      by_cases e : j < ops.size
      · exact e
      · rw [Array.getD_eq_getD_getElem?, Array.getElem?_eq_none (by omega)] at hj; simp at hj
    refine wpOp_step ho (fun K hK => ?_)
    refine hst vs w' _ hS (fun j hj => ?_) (fun j hj => ?_) hH (fun j hj hl k hk => hcl j hj hl k (by simpa using hk)) hno K (fun v w2 a2 ha hS2 hD2 hk => hK _ _ ⟨by simpa using hsz, fun j hj hl k hk2 => ?_, upd vs i v, ?_, ?_, fun j hj hl => ?_, fun j hj hl => ?_⟩)
    · have hjl := waits_listed ho h3 (by simpa using hj)
      exact hD j (hbound j hjl) hjl
    · cases e : listed.getD j false with
      | false => rfl
      | true =>
        have := hcl j (hbound j e) e i (by simpa using hj)
        rw [hno] at this; cases this
    · rw [hget listed i _ hsz h1] at hl ⊢
      by_cases e : k = i
      · rw [if_pos e]
      · rw [if_neg e]
        by_cases e2 : j = i
        · subst e2; exact waits_listed ho h3 hk2
        · rw [if_neg e2] at hl; exact hcl j hj hl k hk2
    · rw [← ha]; exact putL_upd hok (hin i o ho) a vs v
    · have e : (fun j => (listed.setIfInBounds i true).getD j false) = fun j => if j = i then true else listed.getD j false := funext fun j => hget listed i j hsz h1
      show S (fun j => (listed.setIfInBounds i true).getD j false) (upd vs i v) w2
      rw [e]; exact hS2
    · rw [hget listed i _ hsz h1] at hl
      by_cases e : j = i
      · subst e; rw [show upd vs j v j = v from if_pos rfl]; exact hD2
      · rw [show upd vs i v j = vs j from if_neg e]
        rw [if_neg e] at hl
        exact hk j _ e hl (hD j hj hl)
    · rw [hget listed i _ hsz h1] at hl
      by_cases e : j = i
      · rw [if_pos e] at hl; cases hl
      · rw [if_neg e] at hl
        rw [show upd vs i v j = vs j from if_neg e]
        exact hH j hj hl
  · rintro listed a' w' ⟨hsz, hcl, vs, rfl, hS, hD, hH⟩ hr
    have ha := all_listed hlow hsz hr
    exact hend vs w' _ ha hS (fun j hj => hD j hj (ha j hj))
  · unfold undone
    have := List.length_filter_le (fun i => !(Array.replicate ops.size false).getD i true) (List.range ops.size)
    simpa using this
  · have h0 : ∀ j, (Array.replicate ops.size false).getD j false = false := fun j => by
      rw [Array.getD_eq_getD_getElem?, Array.getElem?_replicate]
      split <;> rfl
    refine ⟨by simp, fun j hj hl => (by rw [h0] at hl; cases hl), held a ops, ?_, ?_, fun j hj hl => (by rw [h0] at hl; cases hl), fun _ _ _ => rfl⟩
    · symm
      refine putL_same a _ _ (fun i t hm => ?_)
      unfold dsts at hm
      rw [List.mem_map] at hm
      obtain ⟨k, _, e⟩ := hm
      injection e with e1 e2
      subst e1
      unfold held; rw [e2]
    · have e : (fun j => (Array.replicate ops.size false).getD j false) = fun _ => false := funext h0
      show S (fun j => (Array.replicate ops.size false).getD j false) (held a ops) w.drew
      rw [e]; exact hS
/-- one operation: the goal of its step -/
def StepL3 (P : Program) (l : List Oper) (Q : Exit → Act → World → Prop) (ts : List Value) (df : List Deferred) (S : (Nat → Bool) → (Nat → Value) → World → Prop) (D : Nat → Value → World → Prop) (i : Nat) (o : Oper) : Prop :=
  ∀ vs w (done : Nat → Bool), S done vs w → (∀ j, (waits l.toArray i).contains j = true → D j (vs j) w) → (∀ j, (waits l.toArray j).contains i = true → done j = false) → (∀ j, j < l.length → done j = false → vs j = held ⟨ts.toArray, df⟩ l.toArray j) → (∀ j, j < l.length → done j = true → ∀ k, (waits l.toArray j).contains k = true → done k = true) → done i = false → ∀ K : Act → World → Prop,
    (∀ v w' a', (⟨(putT (dstsL 0 l) ts vs).toArray, df⟩ : Act).put o.dst v = a' → S (fun j => if j = i then true else done j) (upd vs i v) w' → D i v w' → (∀ j v', j ≠ i → done j = true → D j v' w → D j v' w') → K a' w') →
    if Region.wanted o (yielded l.toArray (putT (dstsL 0 l) ts vs).toArray) = true then Oper.wp P o ⟨(putT (dstsL 0 l) ts vs).toArray, df⟩ w K Q else K ((⟨(putT (dstsL 0 l) ts vs).toArray, df⟩ : Act).put o.dst undef) w
def StepsL3 (P : Program) (l : List Oper) (Q : Exit → Act → World → Prop) (ts : List Value) (df : List Deferred) (S : (Nat → Bool) → (Nat → Value) → World → Prop) (D : Nat → Value → World → Prop) : Nat → List Oper → Prop
  | _, [] => True
  | i, o :: r => StepL3 P l Q ts df S D i o ∧ StepsL3 P l Q ts df S D (i + 1) r
theorem StepsL3.get {P : Program} {l : List Oper} {Q : Exit → Act → World → Prop} {ts : List Value} {df : List Deferred} {S : (Nat → Bool) → (Nat → Value) → World → Prop} {D : Nat → Value → World → Prop} : ∀ (r : List Oper) (k : Nat), StepsL3 P l Q ts df S D k r → ∀ i o, r[i]? = some o → StepL3 P l Q ts df S D (i + k) o := by
  intro r
  induction r with
  | nil => intro k _ i o h; simp at h
  | cons x r ih =>
    intro k hs i o h
    cases i with
    | zero =>
      obtain rfl : x = o := by simpa using h
      rw [Nat.zero_add]; exact hs.1
    | succ i =>
      have := ih (k + 1) hs.2 i o (by simpa using h)
      rwa [show i + 1 + k = i + (k + 1) by omega]
/-- THE RULE: S is what holds of the world, by what has been done; D what an operation leaves in its slot -/
theorem wp_region_inv3 {P : Program} {l : List Oper} {Q : Exit → Act → World → Prop} {id : Nat} {ts : List Value} {df : List Deferred} {w : World} (S : (Nat → Bool) → (Nat → Value) → World → Prop) (D : Nat → Value → World → Prop)
    (hm : P.follows .mixedOrders = true) (hok : (okL (dstsL 0 l) && ((List.range l.length).all fun i => (waits l.toArray i).all (· < i))) = true) (hS : S (fun _ => false) (held ⟨ts.toArray, df⟩ l.toArray) w.drew) (hs : StepsL3 P l Q ts df S D 0 l)
    (hend : ∀ vs w' done, (∀ j, j < l.length → done j = true) → S done vs w' → (∀ j, j < l.length → D j (vs j) w') → Q .normal ⟨(putT (dstsL 0 l) ts vs).toArray, df⟩ w') : (Code.region id l.toArray true).wp P Q ⟨ts.toArray, df⟩ w := by
  rw [Bool.and_eq_true] at hok
  refine wp_region_inv30 S D hm (by rw [dsts_list]; exact hok.1) (by simpa using hok.2) hS (fun i o ho => ?_) (fun vs w' done h1 h2 h3 => ?_)
  · have := StepsL3.get l 0 hs i o (by simpa using ho)
    intro vs w done h1 h2 h3 h4 h5 h6 K hK
    rw [dsts_list, putL_list] at hK ⊢
    exact this vs w done h1 h2 h3 (fun j hj hd => h4 j (by simpa using hj) hd) (fun j hj hd => h5 j (by simpa using hj) hd) h6 K hK
  · rw [dsts_list, putL_list]
    exact hend vs w' done (fun j hj => h1 j (by simpa using hj)) h2 (fun j hj => h3 j (by simpa using hj))
end Go.Proofs.YtdgllaiejhnjmaaDoor.inv

/- The reference's add, a node's line: its memory, its walk. Condition: none. -/
namespace Go.Proofs.YtdgllaiejhnjmaaDoor.mod
open Go.RowKit lex net aggs kit strs deck

theorem aggs_ne {α : Type} {T k : Nat} {enc : α → List Value} {W : World} {base : Nat} {v : Value} {xs : List α} (h : AggsAt T k enc W base v xs) {x T' : Nat} {C : Array Value} (e : W.heap[x]? = some (.cells C T' (0, 0))) (hT : T' ≠ T) : v.ownBlock ≠ some x := by
  intro q
  rcases h.2 with ⟨h, _⟩ | ⟨g', c', cur', rfl, _, hh', _⟩
  · rw [h] at q; cases q
  · simp only [Value.ownBlock, Option.some.injEq] at q
    rw [q, e] at hh'
    injection hh' with hh'
    injection hh' with _ e2
    exact hT e2
theorem aggs_far {α : Type} {T k : Nat} {enc : α → List Value} {W : World} {base : Nat} {v : Value} {xs : List α} (h : AggsAt T k enc W base v xs) {x T' : Nat} {C : Array Value} (e : W.heap[x]? = some (.cells C T' (0, 0))) (hT : T' ≠ T) (i : Nat) (u : Value) : AggsAt T k enc (W.setCell ⟨x, i, none⟩ u) base v xs := by
  refine World.ownsRow.kept h (gb_set u (gb_refl W (some x))) ?_
  exact .inr (aggs_ne h e hT)
theorem NN1 : (26 : Nat) ≠ 51 := by decide
theorem NN2 : (26 : Nat) ≠ 47 := by decide
/-- while a node is appended: operation ia appends, operation st puts the row in its place -/
structure TN (w : World) (x base : Nat) (vn vd : Value) (ns : List Nd) (ds : List Dv) (y : Nd) (ia st : Nat) (done : Nat → Bool) (W : World) : Prop where
  below : Below base w W
  keep : ∀ k, k < w.heap.size → k ≠ x → vn.ownBlock ≠ some k → W.heap[k]? = w.heap[k]?
  net : ∃ p, W.heap[x]? = some (.cells #[p, vd] 26 (0, 0)) ∧ (done st = false → p = vn) ∧ (done st = true → AggsAt 51 3 encNd W base p (ns ++ [y]))
  row : done ia = false → AggsAt 51 3 encNd W base vn ns
  oth : AggsAt 47 5 encDv W base vd ds
section
variable {w W W' : World} {x base ia st : Nat} {vn vd v : Value} {ns : List Nd} {ds : List Dv} {y : Nd} {done : Nat → Bool}
theorem TN.start (e : w.heap[x]? = some (.cells #[vn, vd] 26 (0, 0))) (h1 : AggsAt 51 3 encNd w base vn ns) (h2 : AggsAt 47 5 encDv w base vd ds) : TN w x base vn vd ns ds y ia st (fun _ => false) w.drew where
  below := (Below.refl _ _).drew
  keep := fun _ _ _ _ => rfl
  net := ⟨vn, e, fun _ => rfl, fun h => by cases h⟩
  row := fun _ => h1
  oth := h2
theorem TN.mark (h : TN w x base vn vd ns ds y ia st done W) (i : Nat) (h1 : i ≠ ia) (h2 : i ≠ st) : TN w x base vn vd ns ds y ia st (fun j => if j = i then true else done j) W := by
  obtain ⟨a, b, ⟨p, e, e1, e2⟩, c, d⟩ := h
  have q1 : (if ia = i then true else done ia) = done ia := if_neg (Ne.symm h1)
  have q2 : (if st = i then true else done st) = done st := if_neg (Ne.symm h2)
  exact ⟨a, b, ⟨p, e, fun h => e1 (q2.symm.trans h), fun h => e2 (q2.symm.trans h)⟩, fun h => c (q1.symm.trans h), d⟩
theorem TN.alloc (h : TN w x base vn vd ns ds y ia st done W) (o : Obj) (hb : base ≤ W.heap.size) : TN w x base vn vd ns ds y ia st done (W.alloc o) := by
  obtain ⟨a, b, ⟨p, e, e1, e2⟩, c, d⟩ := h
  have bb := below_box W o
  have hx := lt_of_block e
  exact ⟨a.trans (bb.mono hb), fun k h1 h2 h3 => (bb.block k (Nat.lt_of_lt_of_le h1 a.size)).trans (b k h1 h2 h3), ⟨p, by rw [bb.block x hx]; exact e, e1, fun h => (e2 h).below bb⟩, fun h => (c h).below bb, d.below bb⟩
theorem TN.app (h : TN w x base vn vd ns ds y ia st done W) (h1 : done ia = false) (h2 : done st = false) (hne : st ≠ ia) (hb : base ≤ W.heap.size) (hg : W.grownBy W' vn.ownBlock) : TN w x base vn vd ns ds y ia st (fun j => if j = ia then true else done j) W' := by
  obtain ⟨a, b, ⟨p, e, e1, e2⟩, c, d⟩ := h
  have hr := c h1
  have o1 : ∀ k, vn.ownBlock = some k → base ≤ k := fun k hk => (World.ownsRow.lt hr k hk).1
  have hx := lt_of_block e
  have q2 : (if st = ia then true else done st) = done st := if_neg hne
  refine ⟨a.grown hg hb o1, fun k g1 g2 g3 => (hg.block k (Nat.lt_of_lt_of_le g1 a.size) (fun e => g3 e.symm)).trans (b k g1 g2 g3), ⟨p, by rw [hg.block x hx (fun q => aggs_ne hr e NN1 q.symm)]; exact e, fun _ => e1 h2, fun h => ?_⟩, fun h => ?_, ?_⟩
  · rw [q2, h2] at h; cases h
  · rw [if_pos rfl] at h; cases h
  · refine World.ownsRow.kept d hg ?_
    cases e : vd.ownBlock with
    | none => exact .inl rfl
    | some k => right; exact fun e2 => own_type hr d (by decide) k e2.symm e
theorem TN.store (h : TN w x base vn vd ns ds y ia st done W) (hbx : base ≤ x) (hv : AggsAt 51 3 encNd W base v (ns ++ [y])) : TN w x base vn vd ns ds y ia st (fun j => if j = st then true else done j) (W.setCell ⟨x, 0, none⟩ v) := by
  obtain ⟨a, b, ⟨p, e, e1, e2⟩, c, d⟩ := h
  have gs : W.grownBy (W.setCell ⟨x, 0, none⟩ v) (some x) := gb_set v (gb_refl W _)
  refine ⟨a.setCell hbx _, fun k g1 g2 g3 => (gs.block k (Nat.lt_of_lt_of_le g1 a.size) (by simpa using g2)).trans (b k g1 g2 g3), ⟨v, by have := set_at (i := 0) v e; exact this, fun h => ?_, fun _ => aggs_far hv e NN1 0 v⟩, fun h => ?_, aggs_far d e NN2 0 v⟩
  · rw [if_pos rfl] at h; cases h
  · by_cases q : ia = st
    · rw [if_pos q] at h; cases h
    · rw [if_neg q] at h; exact aggs_far (c h) e NN1 0 v
end
/-- WHAT add LEAVES -/
def AddRPost (w : World) (base : Nat) (ns : List Nd) (ds : List Dv) (ws : List (List UInt8)) (e : Ending) (w' : World) : Prop :=
  ∃ a N c b M d, e = .returned (.tuple #[.agg #[.slice a N c, .slice b M d], .int .i64 (addE ns ws)]) ∧ Below base w w' ∧ (addE ns ws = 0 → AggsAt 51 3 encNd w' base (.slice a N c) (addS (ns, ds) ws).1 ∧ AggsAt 47 5 encDv w' base (.slice b M d) (addS (ns, ds) ws).2)
def DRa (x g c base : Nat) (vn : Value) (z1 : ByteArray) (v1 v2 : Int) (ns : List Nd) : Nat → Value → World → Prop
  | 0, v, _ => v = .pointer (some ⟨x, 0, none⟩)
  | 1, v, _ => v = vn
  | 2, v, _ => v = .slice (some ⟨g, 0, none⟩) 6 c
  | 3, v, _ => v = .pointer (some ⟨g, 1, none⟩)
  | 4, v, _ => v = .string z1
  | 5, v, _ => v = .int .i64 v1
  | 6, v, _ => v = .int .i64 v2
  | 7, v, _ => v = .agg #[.string z1, .int .i64 v1, .int .i64 v2]
  | 8, v, W => ∃ B, v = .slice (some ⟨B, 0, none⟩) 1 1 ∧ W.heap[B]? = some (.cells #[.string z1, .int .i64 v1, .int .i64 v2] 51 (0, 0)) ∧ x + 1 ≤ B ∧ vn.ownBlock ≠ some B
  | 9, v, W => AggsAt 51 3 encNd W base v (ns ++ [⟨z1, v1, v2⟩])
  | 10, v, _ => v = .pointer (some ⟨x, 0, none⟩)
  | _, _, _ => True
theorem DRa.kept {x g c base : Nat} {vn : Value} {z1 : ByteArray} {v1 v2 : Int} {ns : List Nd} {W W' : World} {row : Option Nat} (hg : W.grownBy W' row) (hr : ∀ k, row = some k → k < 0) : ∀ j v, DRa x g c base vn z1 v1 v2 ns j v W → DRa x g c base vn z1 v1 v2 ns j v W'
  | 0, _, h | 1, _, h | 2, _, h | 3, _, h | 4, _, h | 5, _, h | 6, _, h | 7, _, h | 10, _, h | 11, _, h | _ + 12, _, h => h
  | 8, _, ⟨B, h1, h2, h3, h4⟩ => ⟨B, h1, by rw [hg.block B (lt_of_block h2) (fun e => by have := hr B e.symm; omega)]; exact h2, h3, h4⟩
  | 9, _, h => AggsAt.grown (show AggsAt _ _ _ _ _ _ _ from h) hg (fun k hk => by have := hr k hk; omega)
theorem DRa.kept2 {x g c base : Nat} {vn : Value} {z1 : ByteArray} {v1 v2 : Int} {ns : List Nd} {W W' : World} (hg : W.grownBy W' vn.ownBlock) : ∀ j v, j ≠ 9 → DRa x g c base vn z1 v1 v2 ns j v W → DRa x g c base vn z1 v1 v2 ns j v W'
  | 0, _, _, h | 1, _, _, h | 2, _, _, h | 3, _, _, h | 4, _, _, h | 5, _, _, h | 6, _, _, h | 7, _, _, h | 10, _, _, h | 11, _, _, h | _ + 12, _, _, h => h
  | 8, _, _, ⟨B, h1, h2, h3, h4⟩ => ⟨B, h1, by rw [hg.block B (lt_of_block h2) (fun e => h4 e.symm)]; exact h2, h3, h4⟩
  | 9, _, hj, _ => absurd rfl hj
theorem DRa.kept3 {x g c base : Nat} {vn : Value} {z1 : ByteArray} {v1 v2 : Int} {ns : List Nd} {W : World} {C : Array Value} {T : Nat} {u : Value} (e : W.heap[x]? = some (.cells C T (0, 0))) (hT : T ≠ 51) : ∀ j v, DRa x g c base vn z1 v1 v2 ns j v W → DRa x g c base vn z1 v1 v2 ns j v (W.setCell ⟨x, 0, none⟩ u)
  | 0, _, h | 1, _, h | 2, _, h | 3, _, h | 4, _, h | 5, _, h | 6, _, h | 7, _, h | 10, _, h | 11, _, h | _ + 12, _, h => h
  | 8, _, ⟨B, h1, h2, h3, h4⟩ => ⟨B, h1, by rw [Below.heap_setCell _ _ _ _ (fun e => by dsimp only at e; omega)]; exact h2, h3, h4⟩
  | 9, _, h => aggs_far (show AggsAt _ _ _ _ _ _ _ from h) e hT 0 u
set_option maxRecDepth 100000 in
set_option maxHeartbeats 4000000 in
theorem radd_node (w : World) (base g n c : Nat) (C : Array Value) (vn vd : Value) (ns : List Nd) (ds : List Dv) (t : List (List UInt8)) (hn0 : AggsAt 51 3 encNd w base vn ns) (hd0 : AggsAt 47 5 encDv w base vd ds) (hbase : base ≤ w.heap.size)
    (hw : WIn w g 0 (wNode :: t)) (hn : (wNode :: t).length = n) (hgl : g < w.heap.size) (hC : w.heap[g]? = some (.cells C 9 (0, 0))) (hz : ∀ s ∈ t, s.length ≤ 200000) (hl : ns.length ≤ 200000) (hnl : n ≤ 200000) :
    Calls Tryd.prog 37 #[.agg #[vn, vd], .slice (some ⟨g, 0, none⟩) n c] w (AddRPost w base ns ds (wNode :: t)) := by
  obtain ⟨va, vc, rfl⟩ : ∃ a c, vn = .slice a ns.length c := by obtain ⟨a, c, e, -⟩ := hn0.length encNd_len; exact ⟨a, c, e⟩
  obtain ⟨vb, ve, rfl⟩ : ∃ a c, vd = .slice a ds.length c := by obtain ⟨a, c, e, -⟩ := hd0.length encDv_len; exact ⟨a, c, e⟩
  have hB1 := below_box w (.cells #[.slice va ns.length vc, .slice vb ds.length ve] 26)
  have hB2 := below_box (w.alloc (.cells #[.slice va ns.length vc, .slice vb ds.length ve] 26)) (.cells #[.slice none 0 0, .slice none 0 0] 26)
  have hBW : Below w.heap.size w ((w.alloc (.cells #[.slice va ns.length vc, .slice vb ds.length ve] 26)).alloc (.cells #[.slice none 0 0, .slice none 0 0] 26)) := by exact hB1.trans (hB2.mono hB1.size)
  have hx0 : ((w.alloc (.cells #[.slice va ns.length vc, .slice vb ds.length ve] 26)).alloc (.cells #[.slice none 0 0, .slice none 0 0] 26)).heap[w.heap.size]? = some (.cells #[.slice va ns.length vc, .slice vb ds.length ve] 26 (0, 0)) := by
    rw [hB2.block _ (by simp)]; exact heap_alloc_new _ _
  have hr0 : ((w.alloc (.cells #[.slice va ns.length vc, .slice vb ds.length ve] 26)).alloc (.cells #[.slice none 0 0, .slice none 0 0] 26)).heap[w.heap.size + 1]? = some (.cells #[.slice none 0 0, .slice none 0 0] 26 (0, 0)) := by
    have := heap_alloc_new (w.alloc (.cells #[.slice va ns.length vc, .slice vb ds.length ve] 26)) (.cells #[.slice none 0 0, .slice none 0 0] 26)
    rwa [World.size_alloc] at this
  have hws : ((w.alloc (.cells #[.slice va ns.length vc, .slice vb ds.length ve] 26)).alloc (.cells #[.slice none 0 0, .slice none 0 0] 26)).heap.size = w.heap.size + 2 := by simp
  have BW := Lib.hid (hBW.mono hbase)
  have HB := Lib.hid hbase
  have X0 := Lib.hid hx0
  have R0 := Lib.hid hr0
  have N0 := Lib.hid (hn0.below hBW)
  have D0 := Lib.hid (hd0.below hBW)
  have hC2 : ((w.alloc (.cells #[.slice va ns.length vc, .slice vb ds.length ve] 26)).alloc (.cells #[.slice none 0 0, .slice none 0 0] 26)).heap[g]? = some (.cells C 9 (0, 0)) := by rw [hBW.block g hgl]; exact hC
  have GL : Hid (g < ((w.alloc (.cells #[.slice va ns.length vc, .slice vb ds.length ve] 26)).alloc (.cells #[.slice none 0 0, .slice none 0 0] 26)).heap.size) := Nat.lt_of_lt_of_le hgl hBW.size
  have GX : Hid (g ≠ w.heap.size) := Nat.ne_of_lt hgl
  have GV := Lib.hid (aggs_ne N0.out hC2 (by decide))
  have NL := Lib.hid hl
  obtain ⟨k0, k1, k2, k3⟩ := arr2 hr0
  obtain ⟨m0, m1, m2, m3⟩ := arr2 hx0
  have BE := Lib.hid ((hB1.trans ((below_box (w.alloc (.cells #[.slice va ns.length vc, .slice vb ds.length ve] 26)) (.cells #[.slice va ns.length vc, .slice vb ds.length ve] 26)).mono hB1.size)).mono hbase)
  have hwc : ∀ i s, (wNode :: t)[i]? = some s → ((w.alloc (.cells #[.slice va ns.length vc, .slice vb ds.length ve] 26)).alloc (.cells #[.slice none 0 0, .slice none 0 0] 26)).cell? ⟨g, i, none⟩ = some (.string (bs s)) := fun i s h => by
    have := hw.get i s h
    rw [Nat.zero_add] at this
    exact (hBW.cell (p := ⟨g, i, none⟩) hgl).trans this
  have c0 := hwc 0 wNode rfl
  obtain ⟨z0, hz0⟩ : ∃ z, bs wNode = z := ⟨_, rfl⟩
  rw [hz0] at c0
  have T0 : (z0.toList == [110, 111, 100, 101]) = true := eqT (by rw [← hz0, bs_data]; rfl)
  unfold AddRPost
  rw [addE_node, addS_node]
  clear hx0 hr0 hB1 hB2 hBW hn0 hd0 hw hC hC2 hz0
  by_cases h6 : n = 6
  · subst h6
    obtain ⟨s1, s2, s3, s4, s5, rfl⟩ : ∃ s1 s2 s3 s4 s5, t = [s1, s2, s3, s4, s5] := by
      match t, hn with
      | [s1, s2, s3, s4, s5], _ => exact ⟨_, _, _, _, _, rfl⟩
    have c1 := hwc 1 s1 rfl
    have c2 := hwc 2 s2 rfl
    have c3 := hwc 3 s3 rfl
    have c4 := hwc 4 s4 rfl
    have c5 := hwc 5 s5 rfl
    have u3 : (bs s3).size ≤ maxLen := by have := hz s3 (by simp); rw [bs_size]; unfold maxLen; omega
    have u5 : (bs s5).size ≤ maxLen := by have := hz s5 (by simp); rw [bs_size]; unfold maxLen; omega
    by_cases q2 : s2 = wCus
    · by_cases q4 : s4 = wCom
      · obtain ⟨v1, hv1⟩ : ∃ v, numV s3 lim = v := ⟨_, rfl⟩
        obtain ⟨v2, hv2⟩ : ∃ v, numV s5 lim = v := ⟨_, rfl⟩
        obtain ⟨b1, hb1⟩ : ∃ v, numB s3 lim = v := ⟨_, rfl⟩
        obtain ⟨b2, hb2⟩ : ∃ v, numB s5 lim = v := ⟨_, rfl⟩
        have NA := rnumber_any (bs s3) lim ((w.alloc (.cells #[.slice va ns.length vc, .slice vb ds.length ve] 26)).alloc (.cells #[.slice none 0 0, .slice none 0 0] 26)) u3 (by unfold lim; omega) (by unfold lim; omega)
        have NB := rnumber_any (bs s5) lim ((w.alloc (.cells #[.slice va ns.length vc, .slice vb ds.length ve] 26)).alloc (.cells #[.slice none 0 0, .slice none 0 0] 26)) u5 (by unfold lim; omega) (by unfold lim; omega)
        rw [bs_data, hv1, hb1] at NA
        rw [bs_data, hv2, hb2] at NB
        have NA := Lib.hid NA
        have NB := Lib.hid NB
        have hE : nodeE [s1, s2, s3, s4, s5] = if b1 = true ∧ b2 = true then 0 else 2 := by
          unfold nodeE
          rw [← hb1, ← hb2]
          by_cases k : numB s3 lim = true ∧ numB s5 lim = true
          · exact (if_pos ⟨rfl, q2, q4, k.1, k.2⟩).trans (if_pos k).symm
          · exact (if_neg (fun h => k ⟨h.2.2.2.1, h.2.2.2.2⟩)).trans (if_neg k).symm
        have hY : nodeY [s1, s2, s3, s4, s5] = ⟨bs s1, v1, v2⟩ := by rw [← hv1, ← hv2]; rfl
        rw [hE, hY]
        obtain ⟨z1, hz1⟩ : ∃ z, bs s1 = z := ⟨_, rfl⟩
        obtain ⟨z2, hz2⟩ : ∃ z, bs s2 = z := ⟨_, rfl⟩
        obtain ⟨z3, hz3⟩ : ∃ z, bs s3 = z := ⟨_, rfl⟩
        obtain ⟨z4, hz4⟩ : ∃ z, bs s4 = z := ⟨_, rfl⟩
        obtain ⟨z5, hz5⟩ : ∃ z, bs s5 = z := ⟨_, rfl⟩
        have T2 : (z2.toList == [99, 117, 115, 116, 111, 109, 101, 114, 115]) = true := eqT (by rw [← hz2, bs_data]; exact q2)
        have T4 : (z4.toList == [99, 111, 109, 112, 97, 110, 121]) = true := eqT (by rw [← hz4, bs_data]; exact q4)
        rw [hz1] at c1 ⊢
        rw [hz2] at c2
        rw [hz3] at c3 NA
        rw [hz4] at c4
        rw [hz5] at c5 NB
        have C1 := Lib.hid c1
        unfold lim at NA NB
        clear hE hY hv1 hv2 hb1 hb2 hz1 hz2 hz3 hz4 hz5 q2 q4 u3 u5 hwc hz hn
        cases b1
        · rw [if_neg (fun h => by cases h.1)]
          go_enter Tryd.func37, Tryd.ntmps37
          go_wp2_with fail
          refine NA.out.mono ?_; rintro e1 w1 ⟨rfl, rfl⟩
          go_wp2_with fail
          refine NB.out.mono ?_; rintro e1 w1 ⟨rfl, rfl⟩
          go_wp2
          refine bodyPost_ret (v := .tuple #[.agg #[.slice va ns.length vc, .slice vb ds.length ve], .int .i64 2]) (by simp [results, Tryd.results37, go_sem]) rfl ?_
          exact ⟨_, _, _, _, _, _, rfl, BE.out, fun h => by cases h⟩
        · cases b2
          · rw [if_neg (fun h => by cases h.2)]
            go_enter Tryd.func37, Tryd.ntmps37
            go_wp2_with fail
            refine NA.out.mono ?_; rintro e1 w1 ⟨rfl, rfl⟩
            go_wp2_with fail
            refine NB.out.mono ?_; rintro e1 w1 ⟨rfl, rfl⟩
            go_wp2
            refine bodyPost_ret (v := .tuple #[.agg #[.slice va ns.length vc, .slice vb ds.length ve], .int .i64 2]) (by simp [results, Tryd.results37, go_sem]) rfl ?_
            exact ⟨_, _, _, _, _, _, rfl, BE.out, fun h => by cases h⟩
          · rw [if_pos ⟨rfl, rfl⟩]
            have HS0 : Hid (TN ((w.alloc (.cells #[.slice va ns.length vc, .slice vb ds.length ve] 26)).alloc (.cells #[.slice none 0 0, .slice none 0 0] 26)) w.heap.size base (.slice va ns.length vc) (.slice vb ds.length ve) ns ds ⟨z1, v1, v2⟩ 9 11 (fun _ => false) ((w.alloc (.cells #[.slice va ns.length vc, .slice vb ds.length ve] 26)).alloc (.cells #[.slice none 0 0, .slice none 0 0] 26)).drew) := TN.start X0.out N0.out D0.out
            obtain ⟨i0, hi, hz0, hz1, hz2⟩ := info_parts infoNd
            go_enter Tryd.func37, Tryd.ntmps37
            go_wp2_with fail
            refine NA.out.mono ?_; rintro e1 w1 ⟨rfl, rfl⟩
            go_wp2_with fail
            refine NB.out.mono ?_; rintro e1 w1 ⟨rfl, rfl⟩
            clear k0 k1 k2 k3 m0 m1 m2 m3 BE c0 c1 c2 c3 c4 c5
            go_wp2_with fail
            refine inv.wp_region_inv2 (TN ((w.alloc (.cells #[.slice va ns.length vc, .slice vb ds.length ve] 26)).alloc (.cells #[.slice none 0 0, .slice none 0 0] 26)) w.heap.size base (.slice va ns.length vc) (.slice vb ds.length ve) ns ds ⟨z1, v1, v2⟩ 9 11) (DRa w.heap.size g c base (.slice va ns.length vc) z1 v1 v2 ns) (by kernel_rfl) (by kernel_rfl) HS0.out ?steps ?rest
            case steps =>
              refine ⟨fun vs W done hS hD hno hold hcl hme K hK => ?_, fun vs W done hS hD hno hold hcl hme K hK => ?_, fun vs W done hS hD hno hold hcl hme K hK => ?_, fun vs W done hS hD hno hold hcl hme K hK => ?_, fun vs W done hS hD hno hold hcl hme K hK => ?_, fun vs W done hS hD hno hold hcl hme K hK => ?_, fun vs W done hS hD hno hold hcl hme K hK => ?_, fun vs W done hS hD hno hold hcl hme K hK => ?_, fun vs W done hS hD hno hold hcl hme K hK => ?_, fun vs W done hS hD hno hold hcl hme K hK => ?_, fun vs W done hS hD hno hold hcl hme K hK => ?_, fun vs W done hS hD hno hold hcl hme K hK => ?_, trivial⟩
              · clear hold; clear hcl; simp only [inv.dstsL, inv.putT, Nat.reduceAdd, List.set_cons_zero, List.set_cons_succ]
                go_simp
                exact hK _ _ _ (by simp only [inv.dstsL, inv.putT, Nat.reduceAdd, List.set_cons_zero, List.set_cons_succ]; (try rfl)) (hS.mark 0 (by decide) (by decide)) (rfl) (fun _ _ _ _ h => h)
              · clear hold; simp only [inv.dstsL, inv.putT, Nat.reduceAdd, List.set_cons_zero, List.set_cons_succ]
                have h0 : (vs 0) = .pointer (some ⟨w.heap.size, 0, none⟩) := hD 0 (by kernel_rfl)
                have d9 := hno 9 (by kernel_rfl)
                have d11 : done 11 = false := Bool.eq_false_iff.2 (fun h => by have := hcl 11 (by decide) h 9 (by kernel_rfl); rw [d9] at this; cases this)
                obtain ⟨p, e, e1, -⟩ := hS.net
                rw [e1 d11] at e
                have c0 := (cell_at e 0).1
                clear hcl d9 d11 e1
                rw [h0]
                go_simp
                exact hK _ _ _ (by simp only [inv.dstsL, inv.putT, Nat.reduceAdd, List.set_cons_zero, List.set_cons_succ, h0]; (try rfl)) (hS.mark 1 (by decide) (by decide)) (rfl) (fun _ _ _ _ h => h)
              · clear hold; clear hcl; simp only [inv.dstsL, inv.putT, Nat.reduceAdd, List.set_cons_zero, List.set_cons_succ]
                go_simp
                exact hK _ _ _ (by simp only [inv.dstsL, inv.putT, Nat.reduceAdd, List.set_cons_zero, List.set_cons_succ]; (try rfl)) (hS.mark 2 (by decide) (by decide)) (rfl) (fun _ _ _ _ h => h)
              · clear hold; clear hcl; simp only [inv.dstsL, inv.putT, Nat.reduceAdd, List.set_cons_zero, List.set_cons_succ]
                have h2 : (vs 2) = .slice (some ⟨g, 0, none⟩) 6 c := hD 2 (by kernel_rfl)
                rw [h2]
                go_simp
                exact hK _ _ _ (by simp only [inv.dstsL, inv.putT, Nat.reduceAdd, List.set_cons_zero, List.set_cons_succ, h2]; (try rfl)) (hS.mark 3 (by decide) (by decide)) (rfl) (fun _ _ _ _ h => h)
              · clear hold; clear hcl; simp only [inv.dstsL, inv.putT, Nat.reduceAdd, List.set_cons_zero, List.set_cons_succ]
                have h3 : (vs 3) = .pointer (some ⟨g, 1, none⟩) := hD 3 (by kernel_rfl)
                have c0 : W.cell? ⟨g, 1, none⟩ = some (.string z1) := (World.cell?_of_block (a := ⟨g, 1, none⟩) (hS.keep g GL.out GX.out GV.out)).trans C1.out
                rw [h3]
                go_simp
                exact hK _ _ _ (by simp only [inv.dstsL, inv.putT, Nat.reduceAdd, List.set_cons_zero, List.set_cons_succ, h3]; (try rfl)) (hS.mark 4 (by decide) (by decide)) (rfl) (fun _ _ _ _ h => h)
              · clear hold; clear hcl; simp only [inv.dstsL, inv.putT, Nat.reduceAdd, List.set_cons_zero, List.set_cons_succ]
                go_simp
                exact hK _ _ _ (by simp only [inv.dstsL, inv.putT, Nat.reduceAdd, List.set_cons_zero, List.set_cons_succ]; (try rfl)) (hS.mark 5 (by decide) (by decide)) (rfl) (fun _ _ _ _ h => h)
              · clear hold; clear hcl; simp only [inv.dstsL, inv.putT, Nat.reduceAdd, List.set_cons_zero, List.set_cons_succ]
                go_simp
                exact hK _ _ _ (by simp only [inv.dstsL, inv.putT, Nat.reduceAdd, List.set_cons_zero, List.set_cons_succ]; (try rfl)) (hS.mark 6 (by decide) (by decide)) (rfl) (fun _ _ _ _ h => h)
              · clear hold; clear hcl; simp only [inv.dstsL, inv.putT, Nat.reduceAdd, List.set_cons_zero, List.set_cons_succ]
                have h4 : (vs 4) = .string z1 := hD 4 (by kernel_rfl)
                have h5 : (vs 5) = .int .i64 v1 := hD 5 (by kernel_rfl)
                have h6 : (vs 6) = .int .i64 v2 := hD 6 (by kernel_rfl)
                rw [h4, h5, h6]
                go_simp
                exact hK _ _ _ (by simp only [inv.dstsL, inv.putT, Nat.reduceAdd, List.set_cons_zero, List.set_cons_succ, h4, h5, h6]; (try rfl)) (hS.mark 7 (by decide) (by decide)) (rfl) (fun _ _ _ _ h => h)
              · clear hold; clear hcl; simp only [inv.dstsL, inv.putT, Nat.reduceAdd, List.set_cons_zero, List.set_cons_succ]
                have h7 : (vs 7) = .agg #[.string z1, .int .i64 v1, .int .i64 v2] := hD 7 (by kernel_rfl)
                have d9 := hno 9 (by kernel_rfl)
                have hr := hS.row d9
                have hxs : w.heap.size < W.heap.size := by obtain ⟨p, e, -⟩ := hS.net; exact lt_of_block e
                rw [h7]
                go_simp
                exact hK _ _ _ (by simp only [inv.dstsL, inv.putT, Nat.reduceAdd, List.set_cons_zero, List.set_cons_succ, h7]; (try rfl)) ((hS.alloc _ (Nat.le_trans HB.out (Nat.le_of_lt hxs))).mark 8 (by decide) (by decide)) (⟨W.heap.size, rfl, heap_alloc_new _ _, hxs, fun k => by have := (World.ownsRow.lt hr _ k).2; omega⟩) (fun j v _ _ => (DRa.kept (grown_alloc (gb_refl W none) _) (fun k hk => by cases hk)) j v)
              · clear hold; clear hcl; simp only [inv.dstsL, inv.putT, Nat.reduceAdd, List.set_cons_zero, List.set_cons_succ]
                have h1 : (vs 1) = (.slice va ns.length vc : Value) := hD 1 (by kernel_rfl)
                have h8 : ∃ B, (vs 8) = .slice (some ⟨B, 0, none⟩) 1 1 ∧ W.heap[B]? = some (.cells #[.string z1, .int .i64 v1, .int .i64 v2] 51 (0, 0)) ∧ w.heap.size + 1 ≤ B ∧ (.slice va ns.length vc : Value).ownBlock ≠ some B := hD 8 (by kernel_rfl)
                obtain ⟨B, h8, h8b, h8c, h8d⟩ := h8
                have d11 := hno 11 (by kernel_rfl)
                have hxs : w.heap.size < W.heap.size := by obtain ⟨p, e, -⟩ := hS.net; exact lt_of_block e
                refine step_append_own (by rfl) (.tmp 57) (.tmp 64) 23 (by rfl) base 51 i0 _ 3 32 Tryd.underlying23 hi hz0 hz1 hz2 rfl (by decide) (.slice va ns.length vc) ns.length (flat encNd ns) (by exact h1) (hS.row hme) ⟨B, 0, none⟩ 1 1 (encNd ⟨z1, v1, v2⟩) (by exact h8) rfl (news_of h8b rfl) (encNd_one _) (by unfold maxLen; have := NL.out; omega) (by have := NL.out; omega) (by have := HB.out; omega) ?_
                intro v' w' hown hg _
                exact hK _ _ _ (by simp only [inv.dstsL, inv.putT, Nat.reduceAdd, List.set_cons_zero, List.set_cons_succ]; (try rfl)) (hS.app hme d11 (by decide) (by have := HB.out; omega) hg) (AggsAt.push hown) (fun j v hji _ h => DRa.kept2 hg j v hji h)
              · clear hold; clear hcl; simp only [inv.dstsL, inv.putT, Nat.reduceAdd, List.set_cons_zero, List.set_cons_succ]
                go_simp
                exact hK _ _ _ (by simp only [inv.dstsL, inv.putT, Nat.reduceAdd, List.set_cons_zero, List.set_cons_succ]; (try rfl)) (hS.mark 10 (by decide) (by decide)) (rfl) (fun _ _ _ _ h => h)
              · clear hold; clear hcl; simp only [inv.dstsL, inv.putT, Nat.reduceAdd, List.set_cons_zero, List.set_cons_succ]
                have h9 : AggsAt 51 3 encNd W base (vs 9) (ns ++ [⟨z1, v1, v2⟩]) := hD 9 (by kernel_rfl)
                have h10 : (vs 10) = .pointer (some ⟨w.heap.size, 0, none⟩) := hD 10 (by kernel_rfl)
                obtain ⟨p, e, -⟩ := hS.net
                obtain ⟨c0, f0⟩ := cell_at e 0
                obtain ⟨a9, c9, h102⟩ : ∃ a9 c9, vs 9 = .slice a9 (ns.length + 1) c9 := by obtain ⟨a9, c9, e, -⟩ := AggsAt.length h9 encNd_len; exact ⟨a9, c9, by rw [e, List.length_append]; rfl⟩
                rw [h102] at h9
                rw [h10, h102]
                go_simp
                exact hK undef _ _ (by simp only [inv.dstsL, inv.putT, Nat.reduceAdd, List.set_cons_zero, List.set_cons_succ, h10, h102]; (try rfl)) (hS.store HB.out h9) (by first | rfl | trivial) (fun j v hji _ h => DRa.kept3 e NN1 j v h)
            case rest =>
              intro vs W done hdone hS hD
              obtain ⟨p, ex, -, ep⟩ := hS.net
              have ep := ep (hdone 11 (by decide))
              have rb2 : W.heap[w.heap.size + 1]? = _ := (hS.keep (w.heap.size + 1) (by omega) (by omega) (aggs_ne N0.out R0.out NN1)).trans R0.out
              obtain ⟨pa, pc, rfl⟩ : ∃ a c, p = .slice a (ns.length + 1) c := by obtain ⟨a, c, e, -⟩ := AggsAt.length ep encNd_len; exact ⟨a, c, by rw [e, List.length_append]; rfl⟩
              obtain ⟨k0, k1, k2, k3⟩ := arr2 rb2
              obtain ⟨m0, m1, -, -⟩ := arr2 ex
              have TS := Lib.hid (two_set (.slice pa (ns.length + 1) pc) (.slice vb ds.length ve) rb2 rfl)
              have BE := Lib.hid (((BW.out.trans hS.below).setCell (p := ⟨w.heap.size + 1, 0, none⟩) (by show base ≤ w.heap.size + 1; have := HB.out; omega) (.slice pa (ns.length + 1) pc)).setCell (p := ⟨w.heap.size + 1, 1, none⟩) (by show base ≤ w.heap.size + 1; have := HB.out; omega) (.slice vb ds.length ve))
              have rb3 := set_at (i := 0) (.slice pa (ns.length + 1) pc) rb2
              have A1 := Lib.hid (aggs_far (aggs_far ep rb2 NN1 0 (.slice pa (ns.length + 1) pc)) rb3 NN1 1 (.slice vb ds.length ve))
              have A2 := Lib.hid (aggs_far (aggs_far hS.oth rb2 NN2 0 (.slice pa (ns.length + 1) pc)) rb3 NN2 1 (.slice vb ds.length ve))
              simp only [inv.dstsL, inv.putT, Nat.reduceAdd, List.set_cons_zero, List.set_cons_succ]
              generalize vs 0 = y0, vs 1 = y1, vs 2 = y2, vs 3 = y3, vs 4 = y4, vs 5 = y5, vs 6 = y6, vs 7 = y7, vs 8 = y8, vs 9 = y9, vs 10 = y10 at *
              clear hD hdone hS rb2 rb3 ep ex
              go_wp2
              refine bodyPost_ret (v := .tuple #[.agg #[.slice pa (ns.length + 1) pc, .slice vb ds.length ve], .int .i64 0]) (by simp [results, Tryd.results37, go_sem, TS.out.1, TS.out.2]) rfl ?_
              exact ⟨_, _, _, _, _, _, rfl, BE.out, fun _ => ⟨A1.out, A2.out⟩⟩
      · have hE : nodeE [s1, s2, s3, s4, s5] = 2 := if_neg (fun h => q4 h.2.2.1)
        rw [hE]
        obtain ⟨z2, hz2⟩ : ∃ z, bs s2 = z := ⟨_, rfl⟩
        obtain ⟨z4, hz4⟩ : ∃ z, bs s4 = z := ⟨_, rfl⟩
        have T2 : (z2.toList == [99, 117, 115, 116, 111, 109, 101, 114, 115]) = true := eqT (by rw [← hz2, bs_data]; exact q2)
        have T4 : (z4.toList == [99, 111, 109, 112, 97, 110, 121]) = false := eqF (by rw [← hz4, bs_data]; exact q4)
        rw [hz2] at c2
        rw [hz4] at c4
        clear hE hz2 hz4 q2 q4 u3 u5 hwc hz hn c1 c3 c5
        go_enter Tryd.func37, Tryd.ntmps37
        go_wp2_with fail
        go_wp2
        refine bodyPost_ret (v := .tuple #[.agg #[.slice va ns.length vc, .slice vb ds.length ve], .int .i64 2]) (by simp [results, Tryd.results37, go_sem]) rfl ?_
        exact ⟨_, _, _, _, _, _, rfl, BE.out, fun h => by cases h⟩
    · have hE : nodeE [s1, s2, s3, s4, s5] = 2 := if_neg (fun h => q2 h.2.1)
      rw [hE]
      obtain ⟨z2, hz2⟩ : ∃ z, bs s2 = z := ⟨_, rfl⟩
      have T2 : (z2.toList == [99, 117, 115, 116, 111, 109, 101, 114, 115]) = false := eqF (by rw [← hz2, bs_data]; exact q2)
      rw [hz2] at c2
      clear hE hz2 q2 u3 u5 hwc hz hn c1 c3 c4 c5
      go_enter Tryd.func37, Tryd.ntmps37
      go_wp2_with fail
      go_wp2
      refine bodyPost_ret (v := .tuple #[.agg #[.slice va ns.length vc, .slice vb ds.length ve], .int .i64 2]) (by simp [results, Tryd.results37, go_sem]) rfl ?_
      exact ⟨_, _, _, _, _, _, rfl, BE.out, fun h => by cases h⟩
  · have hE : nodeE t = 2 := if_neg (fun h => h6 (by rw [← hn, List.length_cons, h.1]))
    rw [hE]
    have T6 : ((n : Int) != 6) = true := by rw [bne_iff_ne]; omega
    have hn1 : 1 ≤ n := by rw [← hn, List.length_cons]; omega
    clear hE hwc hz hn
    go_enter Tryd.func37, Tryd.ntmps37
    go_wp2_with fail
    go_wp2
    refine bodyPost_ret (v := .tuple #[.agg #[.slice va ns.length vc, .slice vb ds.length ve], .int .i64 2]) (by simp [results, Tryd.results37, go_sem]) rfl ?_
    exact ⟨_, _, _, _, _, _, rfl, BE.out, fun h => by cases h⟩
end Go.Proofs.YtdgllaiejhnjmaaDoor.mod

/- The reference's add, a device's line: its walk. Condition: none. -/
namespace Go.Proofs.YtdgllaiejhnjmaaDoor.mod
open Go.RowKit lex net aggs kit strs deck

theorem dev5 {W : World} {B T : Nat} {y0 y1 y2 y3 y4 : Value} (h : W.heap[B]? = some (.cells #[y0, y1, y2, y3, y4] T (0, 0))) :
    (W.cell? ⟨B, 0, none⟩ = some y0 ∧ W.cell? ⟨B, 1, none⟩ = some y1 ∧ W.cell? ⟨B, 2, none⟩ = some y2 ∧ W.cell? ⟨B, 3, none⟩ = some y3 ∧ W.cell? ⟨B, 4, none⟩ = some y4) ∧ W.frozen? ⟨B, 0, none⟩ = false ∧ W.frozen? ⟨B, 1, none⟩ = false ∧ W.frozen? ⟨B, 2, none⟩ = false ∧ W.frozen? ⟨B, 3, none⟩ = false ∧ W.frozen? ⟨B, 4, none⟩ = false :=
  ⟨⟨(cell_at h 0).1, (cell_at h 1).1, (cell_at h 2).1, (cell_at h 3).1, (cell_at h 4).1⟩, (cell_at h 0).2, (cell_at h 1).2, (cell_at h 2).2, (cell_at h 3).2, (cell_at h 4).2⟩
theorem dev_set {W : World} {B T : Nat} {y0 y1 y2 y3 y4 : Value} (h : W.heap[B]? = some (.cells #[y0, y1, y2, y3, y4] T (0, 0))) (u0 u1 u2 u3 u4 : Value) :
    (((((W.setCell ⟨B, 0, none⟩ u0).setCell ⟨B, 1, none⟩ u1).setCell ⟨B, 2, none⟩ u2).setCell ⟨B, 3, none⟩ u3).setCell ⟨B, 4, none⟩ u4).heap[B]? = some (.cells #[u0, u1, u2, u3, u4] T (0, 0)) :=
  set_at (i := 4) u4 (set_at (i := 3) u3 (set_at (i := 2) u2 (set_at (i := 1) u1 (set_at (i := 0) u0 h))))
theorem kind_not {s : List UInt8} (h : ∀ j : Nat, 1 ≤ j → j < 7 → s ≠ kw j) : kindOf s = 0 := by
  unfold kindOf
  rw [if_neg (show ¬ s = kw 1 from h 1 (by decide) (by decide)), if_neg (show ¬ s = kw 2 from h 2 (by decide) (by decide)), if_neg (show ¬ s = kw 3 from h 3 (by decide) (by decide)), if_neg (show ¬ s = kw 4 from h 4 (by decide) (by decide)), if_neg (show ¬ s = kw 5 from h 5 (by decide) (by decide)), if_neg (show ¬ s = kw 6 from h 6 (by decide) (by decide))]
def DRk (g n c k : Nat) (z0 : ByteArray) (b : Bool) : Nat → Value → World → Prop
  | 0, v, _ => v = .slice (some ⟨g, 0, none⟩) n c
  | 1, v, _ => v = .pointer (some ⟨g, 0, none⟩)
  | 2, v, _ => v = .string z0
  | 3, v, _ => v = .int .i64 (k : Int)
  | 4, v, _ => v = .string (bs (kw k))
  | 5, v, _ => v = .bool b
  | _, _, _ => True
theorem DRk.kept {g n c k : Nat} {z0 : ByteArray} {b : Bool} {W W' : World} (_hb : True) : ∀ j v, DRk g n c k z0 b j v W → DRk g n c k z0 b j v W'
  | 0, _, h => h
  | 1, _, h => h
  | 2, _, h => h
  | 3, _, h => h
  | 4, _, h => h
  | 5, _, h => h
  | _ + 6, _, h => h
def DRm (x g n c k : Nat) (vn vd : Value) (z1 z2 : ByteArray) (r1 co : Int) : Nat → Value → World → Prop
  | 0, v, _ => v = .slice (some ⟨g, 0, none⟩) n c
  | 1, v, _ => v = .pointer (some ⟨g, 1, none⟩)
  | 2, v, _ => v = .string z1
  | 3, v, _ => v = .int .i64 (k : Int)
  | 4, v, _ => v = .agg #[vn, vd]
  | 5, v, _ => v = .slice (some ⟨g, 0, none⟩) n c
  | 6, v, _ => v = .pointer (some ⟨g, 2, none⟩)
  | 7, v, _ => v = .string z2
  | 8, v, _ => v = .int .i64 r1
  | 9, v, _ => v = .int .i64 co
  | 10, v, _ => v = .agg #[.string z1, .int .i64 (k : Int), .int .i64 r1, .int .i64 (-1), .int .i64 co]
  | 11, v, W => ∃ B y0 y1 y2 y3 y4, v = .pointer (some ⟨B, 0, none⟩) ∧ W.heap[B]? = some (.cells #[y0, y1, y2, y3, y4] 47 (0, 0)) ∧ x + 2 ≤ B
  | _, _, _ => True
theorem DRm.kept {x g n c k : Nat} {vn vd : Value} {z1 z2 : ByteArray} {r1 co : Int} {W W' : World} (hb : Below W.heap.size W W') : ∀ j v, DRm x g n c k vn vd z1 z2 r1 co j v W → DRm x g n c k vn vd z1 z2 r1 co j v W'
  | 0, _, h | 1, _, h | 2, _, h | 3, _, h | 4, _, h | 5, _, h | 6, _, h | 7, _, h | 8, _, h | 9, _, h | 10, _, h | 12, _, h | _ + 13, _, h => h
  | 11, _, ⟨B, y0, y1, y2, y3, y4, h1, h2, h3⟩ => ⟨B, y0, y1, y2, y3, y4, h1, by rw [hb.block B (lt_of_block h2)]; exact h2, h3⟩
theorem DRm.kept2 {x g n c k : Nat} {vn vd : Value} {z1 z2 : ByteArray} {r1 co : Int} {W W5 : World} {B T : Nat} {y0 y1 y2 y3 y4 u0 u1 u2 u3 u4 : Value} (e : W.heap[B]? = some (.cells #[y0, y1, y2, y3, y4] T (0, 0))) (e5 : W5.heap[B]? = some (.cells #[u0, u1, u2, u3, u4] T (0, 0))) (hk : ∀ B', B' ≠ B → W5.heap[B']? = W.heap[B']?) : ∀ j v, DRm x g n c k vn vd z1 z2 r1 co j v W → DRm x g n c k vn vd z1 z2 r1 co j v W5
  | 0, _, h | 1, _, h | 2, _, h | 3, _, h | 4, _, h | 5, _, h | 6, _, h | 7, _, h | 8, _, h | 9, _, h | 10, _, h | 12, _, h | _ + 13, _, h => h
  | 11, _, ⟨B', z0, z1, z2, z3, z4, h1, h2, h3⟩ => by
    by_cases q : B' = B
    · subst q
      rw [e] at h2
      injection h2 with h2
      injection h2 with h2 h4
      subst h4
      exact ⟨B', u0, u1, u2, u3, u4, h1, e5, h3⟩
    · exact ⟨B', z0, z1, z2, z3, z4, h1, by rw [hk B' q]; exact h2, h3⟩
theorem dev_far {W : World} {B : Nat} (u0 u1 u2 u3 u4 : Value) (B' : Nat) (q : B' ≠ B) : (((((W.setCell ⟨B, 0, none⟩ u0).setCell ⟨B, 1, none⟩ u1).setCell ⟨B, 2, none⟩ u2).setCell ⟨B, 3, none⟩ u3).setCell ⟨B, 4, none⟩ u4).heap[B']? = W.heap[B']? := by
  rw [Below.heap_setCell _ _ _ _ q, Below.heap_setCell _ _ _ _ q, Below.heap_setCell _ _ _ _ q, Below.heap_setCell _ _ _ _ q, Below.heap_setCell _ _ _ _ q]
def DRn2 (_x g n c B : Nat) (vn vd : Value) (z3 : ByteArray) (r2 : Int) : Nat → Value → World → Prop
  | 0, v, _ => v = .agg #[vn, vd]
  | 1, v, _ => v = .slice (some ⟨g, 0, none⟩) n c
  | 2, v, _ => v = .pointer (some ⟨g, 3, none⟩)
  | 3, v, _ => v = .string z3
  | 4, v, _ => v = .int .i64 r2
  | 5, v, _ => v = .pointer (some ⟨B, 3, none⟩)
  | _, _, _ => True
theorem DRn2.kept {_x g n c B : Nat} {vn vd : Value} {z3 : ByteArray} {r2 : Int} {W W' : World} (_hb : True) : ∀ j v, DRn2 _x g n c B vn vd z3 r2 j v W → DRn2 _x g n c B vn vd z3 r2 j v W'
  | 0, _, h => h
  | 1, _, h => h
  | 2, _, h => h
  | 3, _, h => h
  | 4, _, h => h
  | 5, _, h => h
  | 6, _, h => h
  | _ + 7, _, h => h
set_option maxRecDepth 100000 in
set_option maxHeartbeats 8000000 in
theorem radd_dev (w : World) (base g n c : Nat) (_C : Array Value) (vn vd : Value) (ns : List Nd) (ds : List Dv) (s0 : List UInt8) (t : List (List UInt8)) (hn0 : AggsAt 51 3 encNd w base vn ns) (hd0 : AggsAt 47 5 encDv w base vd ds) (hbase : base ≤ w.heap.size)
    (hw : WIn w g 0 (s0 :: t)) (hn : (s0 :: t).length = n) (hgl : g < w.heap.size) (hz : ∀ s ∈ t, s.length ≤ 200000) (hl : ns.length ≤ 200000) (hld : ds.length ≤ 200000) (hnl : n ≤ 200000) (hne : s0 ≠ wNode) :
    Calls Tryd.prog 37 #[.agg #[vn, vd], .slice (some ⟨g, 0, none⟩) n c] w (AddRPost w base ns ds (s0 :: t)) := by
  obtain ⟨va, vc, rfl⟩ : ∃ a c, vn = .slice a ns.length c := by obtain ⟨a, c, e, -⟩ := hn0.length encNd_len; exact ⟨a, c, e⟩
  obtain ⟨vb, ve, rfl⟩ : ∃ a c, vd = .slice a ds.length c := by obtain ⟨a, c, e, -⟩ := hd0.length encDv_len; exact ⟨a, c, e⟩
  have hB1 := below_box w (.cells #[.slice va ns.length vc, .slice vb ds.length ve] 26)
  have hB2 := below_box (w.alloc (.cells #[.slice va ns.length vc, .slice vb ds.length ve] 26)) (.cells #[.slice none 0 0, .slice none 0 0] 26)
  have hBW : Below w.heap.size w ((w.alloc (.cells #[.slice va ns.length vc, .slice vb ds.length ve] 26)).alloc (.cells #[.slice none 0 0, .slice none 0 0] 26)) := hB1.trans (hB2.mono hB1.size)
  have hx0 : ((w.alloc (.cells #[.slice va ns.length vc, .slice vb ds.length ve] 26)).alloc (.cells #[.slice none 0 0, .slice none 0 0] 26)).heap[w.heap.size]? = some (.cells #[.slice va ns.length vc, .slice vb ds.length ve] 26 (0, 0)) := by
    rw [hB2.block _ (by simp)]; exact heap_alloc_new _ _
  have hr0 : ((w.alloc (.cells #[.slice va ns.length vc, .slice vb ds.length ve] 26)).alloc (.cells #[.slice none 0 0, .slice none 0 0] 26)).heap[w.heap.size + 1]? = some (.cells #[.slice none 0 0, .slice none 0 0] 26 (0, 0)) := by
    have := heap_alloc_new (w.alloc (.cells #[.slice va ns.length vc, .slice vb ds.length ve] 26)) (.cells #[.slice none 0 0, .slice none 0 0] 26)
    rwa [World.size_alloc] at this
  have HB := Lib.hid hbase
  have hUp : ∀ W, Below (w.heap.size + 2) ((w.alloc (.cells #[.slice va ns.length vc, .slice vb ds.length ve] 26)).alloc (.cells #[.slice none 0 0, .slice none 0 0] 26)) W → Below w.heap.size w W := fun W h => hBW.trans (h.mono (by omega))
  have BB2 : Hid (∀ W, Below (w.heap.size + 2) ((w.alloc (.cells #[.slice va ns.length vc, .slice vb ds.length ve] 26)).alloc (.cells #[.slice none 0 0, .slice none 0 0] 26)) W → Below base w W) := fun W h => (hUp W h).mono hbase
  have XB : Hid (∀ W, Below (w.heap.size + 2) ((w.alloc (.cells #[.slice va ns.length vc, .slice vb ds.length ve] 26)).alloc (.cells #[.slice none 0 0, .slice none 0 0] 26)) W → W.heap[w.heap.size]? = some (.cells #[.slice va ns.length vc, .slice vb ds.length ve] 26 (0, 0))) := fun W h => (h.block _ (by omega)).trans hx0
  have RB : Hid (∀ W, Below (w.heap.size + 2) ((w.alloc (.cells #[.slice va ns.length vc, .slice vb ds.length ve] 26)).alloc (.cells #[.slice none 0 0, .slice none 0 0] 26)) W → W.heap[w.heap.size + 1]? = some (.cells #[.slice none 0 0, .slice none 0 0] 26 (0, 0))) := fun W h => (h.block _ (by omega)).trans hr0
  have N0 : Hid (∀ W, Below (w.heap.size + 2) ((w.alloc (.cells #[.slice va ns.length vc, .slice vb ds.length ve] 26)).alloc (.cells #[.slice none 0 0, .slice none 0 0] 26)) W → AggsAt 51 3 encNd W base (.slice va ns.length vc) ns) := fun W h => hn0.below (hUp W h)
  have D0 : Hid (∀ W, Below (w.heap.size + 2) ((w.alloc (.cells #[.slice va ns.length vc, .slice vb ds.length ve] 26)).alloc (.cells #[.slice none 0 0, .slice none 0 0] 26)) W → AggsAt 47 5 encDv W base (.slice vb ds.length ve) ds) := fun W h => hd0.below (hUp W h)
  have WCs : Hid (∀ W, Below (w.heap.size + 2) ((w.alloc (.cells #[.slice va ns.length vc, .slice vb ds.length ve] 26)).alloc (.cells #[.slice none 0 0, .slice none 0 0] 26)) W → ∀ i s, (s0 :: t)[i]? = some s → W.cell? ⟨g, i, none⟩ = some (.string (bs s))) := fun W h i s hi => by
    have := hw.get i s hi
    rw [Nat.zero_add] at this
    exact ((hUp W h).cell (p := ⟨g, i, none⟩) hgl).trans this
  have RF : Hid (∀ W, Below (w.heap.size + 2) ((w.alloc (.cells #[.slice va ns.length vc, .slice vb ds.length ve] 26)).alloc (.cells #[.slice none 0 0, .slice none 0 0] 26)) W → ∀ z r, fnd (nmsN ns) z = r → Calls Tryd.prog 49 #[.agg #[.slice va ns.length vc, .slice vb ds.length ve], .string z] W fun e w' => e = .returned (.int .i64 r) ∧ Below W.heap.size W w') := fun W h z r hr => by
    obtain ⟨a', c', e, hri⟩ := AggsAt.rin (N0.out W h) encNd_len
    injection e with e1 _ e3
    subst e1 e3
    exact rfind_is va vb ns.length vc ds.length ve z ns r W rfl hri (by unfold maxLen; omega) hr
  have NL := Lib.hid hld
  obtain ⟨i0, hi, hz0, hz1, hz2⟩ := info_parts infoDv
  obtain ⟨z0, hzz⟩ : ∃ z, bs s0 = z := ⟨_, rfl⟩
  have hzd : z0.data.toList = s0 := by rw [← hzz, bs_data]
  have WZ0 : Hid (∀ W, Below (w.heap.size + 2) ((w.alloc (.cells #[.slice va ns.length vc, .slice vb ds.length ve] 26)).alloc (.cells #[.slice none 0 0, .slice none 0 0] 26)) W → W.cell? ⟨g, 0, none⟩ = some (.string z0)) := fun W h => by rw [← hzz]; exact WCs.out W h 0 s0 rfl
  have HRF : Hid (Below (w.heap.size + 2) ((w.alloc (.cells #[.slice va ns.length vc, .slice vb ds.length ve] 26)).alloc (.cells #[.slice none 0 0, .slice none 0 0] 26)) ((w.alloc (.cells #[.slice va ns.length vc, .slice vb ds.length ve] 26)).alloc (.cells #[.slice none 0 0, .slice none 0 0] 26))) := Below.refl _ _
  have T0 : (z0.toList == [110, 111, 100, 101]) = false := eqF (by rw [hzd]; exact hne)
  have c0 := WZ0.out _ HRF.out
  have HZD := Lib.hid hzd
  unfold AddRPost
  rw [addE_dev ns s0 t hne, addS_dev ns ds s0 t hne]
  obtain ⟨EE, hEE⟩ : ∃ E, devE ns (kindOf s0) t = E := ⟨_, rfl⟩
  obtain ⟨YY, hYY⟩ : ∃ y, devY ns (kindOf s0) t = y := ⟨_, rfl⟩
  rw [hEE, hYY]
  have HEE := Lib.hid hEE
  have HYY := Lib.hid hYY
  have hn1 : 1 ≤ n := by rw [← hn, List.length_cons]; omega
  clear hx0 hr0 hB1 hB2 hBW hUp hn0 hd0 hw hzz hzd hne hEE hYY
  go_enter Tryd.func37, Tryd.ntmps37
  go_wp2_with fail
  go_loopw [10] (fun iv wr => ∃ k : Nat, 1 ≤ k ∧ k ≤ 7 ∧ iv = .int .i64 k ∧ Hid (Below (w.heap.size + 2) ((w.alloc (.cells #[.slice va ns.length vc, .slice vb ds.length ve] 26)).alloc (.cells #[.slice none 0 0, .slice none 0 0] 26)) wr) ∧ Hid (∀ j : Nat, 1 ≤ j → j < k → s0 ≠ kw j)) (fun iv _ => 7 - (intOf iv).toNat)
  case atStart => exact ⟨1, Nat.le_refl _, by decide, rfl, HRF, fun j h1 h2 => by omega⟩
  case round =>
    clear c0 HRF
    obtain ⟨k, hk1, hk7, rfl, bel, hno⟩ := hrel
    by_cases hk : k ≤ 6
    · have hk6 : k ≤ 6 := hk
      have HS00 : Hid (Below (w.heap.size + 2) ((w.alloc (.cells #[.slice va ns.length vc, .slice vb ds.length ve] 26)).alloc (.cells #[.slice none 0 0, .slice none 0 0] 26)) wr.drew) := bel.out.drew
      by_cases hs : s0 = kw k
      · have T1 : (z0.toList == (bs (kw k)).toList) = true := data_eq.trans (decide_eq_true (HZD.out.trans hs))
        have hks : kindOf s0 = k := by rw [hs]; exact kindOf_kw (by omega) (by omega)
        have HEk : Hid (devE ns k t = EE) := by show _ = _; rw [← hks]; exact HEE.out
        have HYk : Hid (devY ns k t = YY) := by show _ = _; rw [← hks]; exact HYY.out
        have hk6d : decide ((k : Int) ≤ 6) = true := decide_eq_true (by omega)
        clear hks hs hno
        go_wp2_with fail
        refine inv.wp_region_inv2 (fun _ W => Below (w.heap.size + 2) ((w.alloc (.cells #[.slice va ns.length vc, .slice vb ds.length ve] 26)).alloc (.cells #[.slice none 0 0, .slice none 0 0] 26)) W) (DRk g n c k z0 false) (by kernel_rfl) (by kernel_rfl) HS00.out ?steps ?rest
        case steps =>
          refine ⟨fun vs W done hS hD hno hold hcl hme K hK => ?_, fun vs W done hS hD hno hold hcl hme K hK => ?_, fun vs W done hS hD hno hold hcl hme K hK => ?_, fun vs W done hS hD hno hold hcl hme K hK => ?_, fun vs W done hS hD hno hold hcl hme K hK => ?_, fun vs W done hS hD hno hold hcl hme K hK => ?_, trivial⟩
          · clear hold; clear hcl; simp only [inv.dstsL, inv.putT, Nat.reduceAdd, List.set_cons_zero, List.set_cons_succ]
            go_simp
            exact hK _ _ _ (by simp only [inv.dstsL, inv.putT, Nat.reduceAdd, List.set_cons_zero, List.set_cons_succ]; (try rfl)) (hS) (rfl) (fun _ _ _ _ h => h)
          · clear hold; clear hcl; simp only [inv.dstsL, inv.putT, Nat.reduceAdd, List.set_cons_zero, List.set_cons_succ]
            have h0 : (vs 0) = .slice (some ⟨g, 0, none⟩) n c := hD 0 (by kernel_rfl)
            rw [h0]
            go_simp
            try (rw [if_pos (by omega)]; go_simp)
            exact hK _ _ _ (by simp only [inv.dstsL, inv.putT, Nat.reduceAdd, List.set_cons_zero, List.set_cons_succ, h0]; (try rfl)) (hS) (rfl) (fun _ _ _ _ h => h)
          · clear hold; clear hcl; simp only [inv.dstsL, inv.putT, Nat.reduceAdd, List.set_cons_zero, List.set_cons_succ]
            have h1 : (vs 1) = .pointer (some ⟨g, 0, none⟩) := hD 1 (by kernel_rfl)
            have c0 : W.cell? ⟨g, 0, none⟩ = some (.string z0) := WZ0.out W hS
            rw [h1]
            go_simp
            exact hK _ _ _ (by simp only [inv.dstsL, inv.putT, Nat.reduceAdd, List.set_cons_zero, List.set_cons_succ, h1]; (try rfl)) (hS) (rfl) (fun _ _ _ _ h => h)
          · clear hold; clear hcl; simp only [inv.dstsL, inv.putT, Nat.reduceAdd, List.set_cons_zero, List.set_cons_succ]
            go_simp
            exact hK _ _ _ (by simp only [inv.dstsL, inv.putT, Nat.reduceAdd, List.set_cons_zero, List.set_cons_succ]; (try rfl)) (hS) (rfl) (fun _ _ _ _ h => h)
          · clear hold; clear hcl; simp only [inv.dstsL, inv.putT, Nat.reduceAdd, List.set_cons_zero, List.set_cons_succ]
            have h3 : (vs 3) = .int .i64 (k : Int) := hD 3 (by kernel_rfl)
            rw [h3]
            go_simp
            refine (rword_is k hk6 W).mono ?_; rintro e W2 ⟨rfl, b2⟩
            go_wp2_with fail
            exact hK _ _ _ (by simp only [inv.dstsL, inv.putT, Nat.reduceAdd, List.set_cons_zero, List.set_cons_succ, h3]; (try rfl)) (hS.trans (b2.mono (bsz2 hS))) (rfl) (fun j v _ _ => (DRk.kept trivial) j v)
          · clear hold; clear hcl; simp only [inv.dstsL, inv.putT, Nat.reduceAdd, List.set_cons_zero, List.set_cons_succ]
            have h2 : (vs 2) = .string z0 := hD 2 (by kernel_rfl)
            have h4 : (vs 4) = .string (bs (kw k)) := hD 4 (by kernel_rfl)
            rw [h2, h4]
            go_simp
            exact hK _ _ _ (by simp only [inv.dstsL, inv.putT, Nat.reduceAdd, List.set_cons_zero, List.set_cons_succ, h2, h4]; (try rfl)) (hS) (rfl) (fun _ _ _ _ h => h)
        case rest =>
          intro vs W done hdone hS hD
          have h5 : (vs 5) = .bool false := hD 5 (by decide)
          simp only [inv.dstsL, inv.putT, Nat.reduceAdd, List.set_cons_zero, List.set_cons_succ]
          rw [h5]
          have HK := Lib.hid hS
          generalize vs 0 = y0, vs 1 = y1, vs 2 = y2, vs 3 = y3, vs 4 = y4 at *
          clear hD hdone hS h5
          by_cases hj : k ≤ 3
          · have JO := Lib.hid (rjoins_is (k : Int) true (decide_eq_true (by omega)) W)
            go_wp2_with fail
            refine JO.out.mono ?_; rintro e8 W ⟨rfl, rfl⟩
            by_cases h6 : n = 6
            · subst h6
              obtain ⟨s1, s2, s3, s4, s5, rfl⟩ : ∃ s1 s2 s3 s4 s5, t = [s1, s2, s3, s4, s5] := by
                match t, hn with
                | [s1, s2, s3, s4, s5], _ => exact ⟨_, _, _, _, _, rfl⟩
              have ccw := WCs.out W HK.out 4 s4 rfl
              have cnw := WCs.out W HK.out 5 s5 rfl
              obtain ⟨zc, hzc⟩ : ∃ z, bs s4 = z := ⟨_, rfl⟩
              rw [hzc] at ccw
              by_cases q4 : s4 = wCom
              · have T4 : (zc.toList == [99, 111, 109, 112, 97, 110, 121]) = true := eqT (by rw [← hzc, bs_data]; exact q4)
                have u5 : (bs s5).size ≤ maxLen := by have := hz s5 (by simp); rw [bs_size]; unfold maxLen; omega
                obtain ⟨co, hco⟩ : ∃ v, numV s5 lim = v := ⟨_, rfl⟩
                obtain ⟨b2, hb2⟩ : ∃ v, numB s5 lim = v := ⟨_, rfl⟩
                have NB := rnumber_any (bs s5) lim W u5 (by unfold lim; omega) (by unfold lim; omega)
                rw [bs_data, hco, hb2] at NB
                obtain ⟨zn, hzn⟩ : ∃ z, bs s5 = z := ⟨_, rfl⟩
                rw [hzn] at cnw NB
                unfold lim at NB
                have NB := Lib.hid NB
                obtain ⟨r1, hr1⟩ : ∃ z, fnd (nmsN ns) (bs s2) = z := ⟨_, rfl⟩
                obtain ⟨r2, hr2⟩ : ∃ z, fnd (nmsN ns) (bs s3) = z := ⟨_, rfl⟩
                have hE : devE ns k [s1, s2, s3, s4, s5] = if b2 = true then (if r1 = -1 ∨ r2 = -1 then 3 else 0) else 2 := by
                  rw [← hb2]
                  unfold devE
                  rw [if_neg (show ¬ (k : Int) = 0 by omega), if_pos (by omega)]
                  by_cases q : numB s5 lim = true
                  · exact (if_pos ⟨rfl, q4, q⟩).trans ((show (if fnd (nmsN ns) (bs s2) = -1 ∨ fnd (nmsN ns) (bs s3) = -1 then (3 : Int) else 0) = _ from by rw [hr1, hr2]).trans (if_pos q).symm)
                  · exact (if_neg (fun h => q h.2.2)).trans (if_neg q).symm
                have hY : devY ns k [s1, s2, s3, s4, s5] = ⟨bs s1, k, r1, r2, co⟩ := by
                  unfold devY
                  rw [if_pos (by omega), ← hco, ← hr1, ← hr2]; rfl
                rw [hE] at HEk
                rw [hY] at HYk
                have WZ1 := Lib.hid (fun W h => WCs.out W h 1 s1 rfl)
                have WZ2 := Lib.hid (fun W h => WCs.out W h 2 s2 rfl)
                have WZ3 := Lib.hid (fun W h => WCs.out W h 3 s3 rfl)
                obtain ⟨z1, hz1⟩ : ∃ z, bs s1 = z := ⟨_, rfl⟩
                obtain ⟨z2, hz2⟩ : ∃ z, bs s2 = z := ⟨_, rfl⟩
                obtain ⟨z3, hz3⟩ : ∃ z, bs s3 = z := ⟨_, rfl⟩
                rw [hz1] at WZ1 HYk
                rw [hz2] at WZ2 hr1
                have HR1 := Lib.hid hr1
                rw [hz3] at WZ3 hr2
                have HR2 := Lib.hid hr2
                have F2 := fnd_ge (nmsN ns) z3
                rw [hr2] at F2
                have F1 := fnd_ge (nmsN ns) z2
                rw [hr1] at F1
                clear hE hY hco hb2 hzc hzn hz1 hz2 q4 u5 hz hn hr1 hz3 hr2
                cases b2
                · have HE2 : Hid (EE = 2) := by show _ = _; rw [← HEk.out, if_neg (fun h => by cases h)]
                  go_wp2_with fail
                  refine NB.out.mono ?_; rintro e9 w9 ⟨rfl, rfl⟩
                  obtain ⟨k0, k1, k2, k3⟩ := arr2 (RB.out W HK.out)
                  obtain ⟨m0, m1, -, -⟩ := arr2 (XB.out W HK.out)
                  have TS := Lib.hid (two_set (.slice va ns.length vc) (.slice vb ds.length ve) (RB.out W HK.out) rfl)
                  have BE := Lib.hid (((BB2.out W HK.out).setCell (p := ⟨w.heap.size + 1, 0, none⟩) (by show base ≤ w.heap.size + 1; have := HB.out; omega) (.slice va ns.length vc)).setCell (p := ⟨w.heap.size + 1, 1, none⟩) (by show base ≤ w.heap.size + 1; have := HB.out; omega) (.slice vb ds.length ve))
                  go_wp2
                  refine bodyPost_ret (v := .tuple #[.agg #[.slice va ns.length vc, .slice vb ds.length ve], .int .i64 2]) (by simp [results, Tryd.results37, go_sem, TS.out.1, TS.out.2]) rfl ?_
                  refine ⟨_, _, _, _, _, _, by rw [HE2.out], BE.out, fun h => ?_⟩
                  rw [HE2.out] at h; cases h
                · have HE2 : Hid ((if r1 = -1 ∨ r2 = -1 then (3 : Int) else 0) = EE) := by show _ = _; rw [← HEk.out, if_pos rfl]
                  go_wp2_with fail
                  refine NB.out.mono ?_; rintro e9 w9 ⟨rfl, rfl⟩
                  go_wp2_with fail
                  refine inv.wp_region_inv3 (fun done vs W => Below (w.heap.size + 2) ((w.alloc (.cells #[.slice va ns.length vc, .slice vb ds.length ve] 26)).alloc (.cells #[.slice none 0 0, .slice none 0 0] 26)) W ∧ (done 12 = true → ∃ B, vs 11 = .pointer (some ⟨B, 0, none⟩) ∧ W.heap[B]? = some (.cells #[.string z1, .int .i64 (k : Int), .int .i64 r1, .int .i64 (-1), .int .i64 co] 47 (0, 0)) ∧ w.heap.size + 2 ≤ B)) (DRm w.heap.size g 6 c k (.slice va ns.length vc) (.slice vb ds.length ve) z1 z2 r1 co) (by kernel_rfl) (by kernel_rfl) (⟨HK.out.drew, fun h => by cases h⟩) ?steps ?rest
                  case steps =>
                    refine ⟨fun vs W done hS hD hno hold hcl hme K hK => ?_, fun vs W done hS hD hno hold hcl hme K hK => ?_, fun vs W done hS hD hno hold hcl hme K hK => ?_, fun vs W done hS hD hno hold hcl hme K hK => ?_, fun vs W done hS hD hno hold hcl hme K hK => ?_, fun vs W done hS hD hno hold hcl hme K hK => ?_, fun vs W done hS hD hno hold hcl hme K hK => ?_, fun vs W done hS hD hno hold hcl hme K hK => ?_, fun vs W done hS hD hno hold hcl hme K hK => ?_, fun vs W done hS hD hno hold hcl hme K hK => ?_, fun vs W done hS hD hno hold hcl hme K hK => ?_, fun vs W done hS hD hno hold hcl hme K hK => ?_, fun vs W done hS hD hno hold hcl hme K hK => ?_, trivial⟩
                    · clear hold; clear hcl; simp only [inv.dstsL, inv.putT, Nat.reduceAdd, List.set_cons_zero, List.set_cons_succ]
                      go_simp
                      exact hK _ _ _ (by simp only [inv.dstsL, inv.putT, Nat.reduceAdd, List.set_cons_zero, List.set_cons_succ]; (try rfl)) (⟨hS.1, fun h => hS.2 (by simpa using h)⟩) (rfl) (fun _ _ _ _ h => h)
                    · clear hold; clear hcl; simp only [inv.dstsL, inv.putT, Nat.reduceAdd, List.set_cons_zero, List.set_cons_succ]
                      have h0 : (vs 0) = .slice (some ⟨g, 0, none⟩) 6 c := hD 0 (by kernel_rfl)
                      rw [h0]
                      go_simp
                      exact hK _ _ _ (by simp only [inv.dstsL, inv.putT, Nat.reduceAdd, List.set_cons_zero, List.set_cons_succ, h0]; (try rfl)) (⟨hS.1, fun h => hS.2 (by simpa using h)⟩) (rfl) (fun _ _ _ _ h => h)
                    · clear hold; clear hcl; simp only [inv.dstsL, inv.putT, Nat.reduceAdd, List.set_cons_zero, List.set_cons_succ]
                      have h1 : (vs 1) = .pointer (some ⟨g, 1, none⟩) := hD 1 (by kernel_rfl)
                      have c0 : W.cell? ⟨g, 1, none⟩ = some (.string z1) := WZ1.out W hS.1
                      rw [h1]
                      go_simp
                      exact hK _ _ _ (by simp only [inv.dstsL, inv.putT, Nat.reduceAdd, List.set_cons_zero, List.set_cons_succ, h1]; (try rfl)) (⟨hS.1, fun h => hS.2 (by simpa using h)⟩) (rfl) (fun _ _ _ _ h => h)
                    · clear hold; clear hcl; simp only [inv.dstsL, inv.putT, Nat.reduceAdd, List.set_cons_zero, List.set_cons_succ]
                      go_simp
                      exact hK _ _ _ (by simp only [inv.dstsL, inv.putT, Nat.reduceAdd, List.set_cons_zero, List.set_cons_succ]; (try rfl)) (⟨hS.1, fun h => hS.2 (by simpa using h)⟩) (rfl) (fun _ _ _ _ h => h)
                    · clear hold; clear hcl; simp only [inv.dstsL, inv.putT, Nat.reduceAdd, List.set_cons_zero, List.set_cons_succ]
                      obtain ⟨m0, m1, -, -⟩ := arr2 (XB.out W hS.1)
                      go_simp
                      exact hK _ _ _ (by simp only [inv.dstsL, inv.putT, Nat.reduceAdd, List.set_cons_zero, List.set_cons_succ]; (try rfl)) (⟨hS.1, fun h => hS.2 (by simpa using h)⟩) (rfl) (fun _ _ _ _ h => h)
                    · clear hold; clear hcl; simp only [inv.dstsL, inv.putT, Nat.reduceAdd, List.set_cons_zero, List.set_cons_succ]
                      go_simp
                      exact hK _ _ _ (by simp only [inv.dstsL, inv.putT, Nat.reduceAdd, List.set_cons_zero, List.set_cons_succ]; (try rfl)) (⟨hS.1, fun h => hS.2 (by simpa using h)⟩) (rfl) (fun _ _ _ _ h => h)
                    · clear hold; clear hcl; simp only [inv.dstsL, inv.putT, Nat.reduceAdd, List.set_cons_zero, List.set_cons_succ]
                      have h5 : (vs 5) = .slice (some ⟨g, 0, none⟩) 6 c := hD 5 (by kernel_rfl)
                      rw [h5]
                      go_simp
                      exact hK _ _ _ (by simp only [inv.dstsL, inv.putT, Nat.reduceAdd, List.set_cons_zero, List.set_cons_succ, h5]; (try rfl)) (⟨hS.1, fun h => hS.2 (by simpa using h)⟩) (rfl) (fun _ _ _ _ h => h)
                    · clear hold; clear hcl; simp only [inv.dstsL, inv.putT, Nat.reduceAdd, List.set_cons_zero, List.set_cons_succ]
                      have h6 : (vs 6) = .pointer (some ⟨g, 2, none⟩) := hD 6 (by kernel_rfl)
                      have c0 : W.cell? ⟨g, 2, none⟩ = some (.string z2) := WZ2.out W hS.1
                      rw [h6]
                      go_simp
                      exact hK _ _ _ (by simp only [inv.dstsL, inv.putT, Nat.reduceAdd, List.set_cons_zero, List.set_cons_succ, h6]; (try rfl)) (⟨hS.1, fun h => hS.2 (by simpa using h)⟩) (rfl) (fun _ _ _ _ h => h)
                    · clear hold; clear hcl; simp only [inv.dstsL, inv.putT, Nat.reduceAdd, List.set_cons_zero, List.set_cons_succ]
                      have h4 : (vs 4) = .agg #[(.slice va ns.length vc), (.slice vb ds.length ve)] := hD 4 (by kernel_rfl)
                      have h7 : (vs 7) = .string z2 := hD 7 (by kernel_rfl)
                      rw [h4, h7]
                      go_simp
                      refine (RF.out W hS.1 z2 r1 HR1.out).mono ?_; rintro e W2 ⟨rfl, b2⟩
                      go_wp2_with fail
                      exact hK _ _ _ (by simp only [inv.dstsL, inv.putT, Nat.reduceAdd, List.set_cons_zero, List.set_cons_succ, h4, h7]; (try rfl)) (⟨hS.1.trans (b2.mono (bsz2 hS.1)), fun h => by obtain ⟨B, q1, q2, q3⟩ := hS.2 (by simpa using h); exact ⟨B, q1, by rw [b2.block B (lt_of_block q2)]; exact q2, q3⟩⟩) (rfl) (fun j v _ _ => (DRm.kept b2) j v)
                    · clear hold; clear hcl; simp only [inv.dstsL, inv.putT, Nat.reduceAdd, List.set_cons_zero, List.set_cons_succ]
                      go_simp
                      exact hK _ _ _ (by simp only [inv.dstsL, inv.putT, Nat.reduceAdd, List.set_cons_zero, List.set_cons_succ]; (try rfl)) (⟨hS.1, fun h => hS.2 (by simpa using h)⟩) (rfl) (fun _ _ _ _ h => h)
                    · clear hold; clear hcl; simp only [inv.dstsL, inv.putT, Nat.reduceAdd, List.set_cons_zero, List.set_cons_succ]
                      have h2 : (vs 2) = .string z1 := hD 2 (by kernel_rfl)
                      have h3 : (vs 3) = .int .i64 (k : Int) := hD 3 (by kernel_rfl)
                      have h8 : (vs 8) = .int .i64 r1 := hD 8 (by kernel_rfl)
                      have h9 : (vs 9) = .int .i64 co := hD 9 (by kernel_rfl)
                      rw [h2, h3, h8, h9]
                      go_simp
                      exact hK _ _ _ (by simp only [inv.dstsL, inv.putT, Nat.reduceAdd, List.set_cons_zero, List.set_cons_succ, h2, h3, h8, h9]; (try rfl)) (⟨hS.1, fun h => hS.2 (by simpa using h)⟩) (rfl) (fun _ _ _ _ h => h)
                    · clear hold; clear hcl; simp only [inv.dstsL, inv.putT, Nat.reduceAdd, List.set_cons_zero, List.set_cons_succ]
                      have d12 := hno 12 (by kernel_rfl)
                      go_simp
                      exact hK _ _ _ (by simp only [inv.dstsL, inv.putT, Nat.reduceAdd, List.set_cons_zero, List.set_cons_succ]; (try rfl)) (⟨hS.1.trans ((below_box W _).mono (bsz2 hS.1)), fun h => by simp [d12] at h⟩) (⟨W.heap.size, _, _, _, _, _, rfl, heap_alloc_new _ _, bsz2 hS.1⟩) (fun j v _ _ => (DRm.kept (below_box W _)) j v)
                    · clear hold; clear hcl; simp only [inv.dstsL, inv.putT, Nat.reduceAdd, List.set_cons_zero, List.set_cons_succ]
                      have h10 : (vs 10) = .agg #[.string z1, .int .i64 (k : Int), .int .i64 r1, .int .i64 (-1), .int .i64 co] := hD 10 (by kernel_rfl)
                      have h11 : ∃ B y0 y1 y2 y3 y4, (vs 11) = .pointer (some ⟨B, 0, none⟩) ∧ W.heap[B]? = some (.cells #[y0, y1, y2, y3, y4] 47 (0, 0)) ∧ w.heap.size + 2 ≤ B := hD 11 (by kernel_rfl)
                      obtain ⟨B, y0, y1, y2, y3, y4, h11, hb, hB⟩ := h11
                      obtain ⟨⟨e0, e1, e2, e3, e4⟩, f0, f1, f2, f3, f4⟩ := dev5 hb
                      rw [h10, h11]
                      go_simp
                      exact hK undef _ _ (by simp only [inv.dstsL, inv.putT, Nat.reduceAdd, List.set_cons_zero, List.set_cons_succ, h10, h11]; (try rfl)) (⟨((((hS.1.setCell hB _).setCell hB _).setCell hB _).setCell hB _).setCell hB _, fun _ => ⟨B, h11, dev_set hb _ _ _ _ _, hB⟩⟩) (by first | rfl | trivial) (fun j v _ _ h => DRm.kept2 hb (dev_set hb _ _ _ _ _) (dev_far _ _ _ _ _) j v h)
                  case rest =>
                    intro vs W done hdone hS hD
                    obtain ⟨hbel, hBB⟩ := hS
                    obtain ⟨B, hp, hb, hB2⟩ := hBB (hdone 12 (by decide))
                    simp only [inv.dstsL, inv.putT, Nat.reduceAdd, List.set_cons_zero, List.set_cons_succ]
                    rw [hp]
                    have HB2 := Lib.hid hB2
                    have HBE := Lib.hid hbel
                    generalize vs 0 = y0, vs 1 = y1, vs 2 = y2, vs 3 = y3, vs 4 = y4, vs 5 = y5, vs 6 = y6, vs 7 = y7, vs 8 = y8, vs 9 = y9, vs 10 = y10 at *
                    clear hD hdone hBB hp
                    go_wp2_with fail
                    refine inv.wp_region_inv3 (fun done _ W => Below (w.heap.size + 2) ((w.alloc (.cells #[.slice va ns.length vc, .slice vb ds.length ve] 26)).alloc (.cells #[.slice none 0 0, .slice none 0 0] 26)) W ∧ (done 6 = false → W.heap[B]? = some (.cells #[.string z1, .int .i64 (k : Int), .int .i64 r1, .int .i64 (-1), .int .i64 co] 47 (0, 0))) ∧ (done 6 = true → W.heap[B]? = some (.cells #[.string z1, .int .i64 (k : Int), .int .i64 r1, .int .i64 r2, .int .i64 co] 47 (0, 0)))) (DRn2 w.heap.size g 6 c B (.slice va ns.length vc) (.slice vb ds.length ve) z3 r2) (by kernel_rfl) (by kernel_rfl) (⟨hbel.drew, fun _ => hb, fun h => by cases h⟩) ?steps ?rest
                    case steps =>
                      refine ⟨fun vs W done hS hD hno hold hcl hme K hK => ?_, fun vs W done hS hD hno hold hcl hme K hK => ?_, fun vs W done hS hD hno hold hcl hme K hK => ?_, fun vs W done hS hD hno hold hcl hme K hK => ?_, fun vs W done hS hD hno hold hcl hme K hK => ?_, fun vs W done hS hD hno hold hcl hme K hK => ?_, fun vs W done hS hD hno hold hcl hme K hK => ?_, trivial⟩
                      · clear hold; clear hcl; simp only [inv.dstsL, inv.putT, Nat.reduceAdd, List.set_cons_zero, List.set_cons_succ]
                        obtain ⟨m0, m1, -, -⟩ := arr2 (XB.out W hS.1)
                        go_simp
                        exact hK _ _ _ (by simp only [inv.dstsL, inv.putT, Nat.reduceAdd, List.set_cons_zero, List.set_cons_succ]; (try rfl)) (⟨hS.1, fun h => hS.2.1 (by simpa using h), fun h => hS.2.2 (by simpa using h)⟩) (rfl) (fun _ _ _ _ h => h)
                      · clear hold; clear hcl; simp only [inv.dstsL, inv.putT, Nat.reduceAdd, List.set_cons_zero, List.set_cons_succ]
                        go_simp
                        exact hK _ _ _ (by simp only [inv.dstsL, inv.putT, Nat.reduceAdd, List.set_cons_zero, List.set_cons_succ]; (try rfl)) (⟨hS.1, fun h => hS.2.1 (by simpa using h), fun h => hS.2.2 (by simpa using h)⟩) (rfl) (fun _ _ _ _ h => h)
                      · clear hold; clear hcl; simp only [inv.dstsL, inv.putT, Nat.reduceAdd, List.set_cons_zero, List.set_cons_succ]
                        have h1 : (vs 1) = .slice (some ⟨g, 0, none⟩) 6 c := hD 1 (by kernel_rfl)
                        rw [h1]
                        go_simp
                        exact hK _ _ _ (by simp only [inv.dstsL, inv.putT, Nat.reduceAdd, List.set_cons_zero, List.set_cons_succ, h1]; (try rfl)) (⟨hS.1, fun h => hS.2.1 (by simpa using h), fun h => hS.2.2 (by simpa using h)⟩) (rfl) (fun _ _ _ _ h => h)
                      · clear hold; clear hcl; simp only [inv.dstsL, inv.putT, Nat.reduceAdd, List.set_cons_zero, List.set_cons_succ]
                        have h2 : (vs 2) = .pointer (some ⟨g, 3, none⟩) := hD 2 (by kernel_rfl)
                        have c0 : W.cell? ⟨g, 3, none⟩ = some (.string z3) := WZ3.out W hS.1
                        rw [h2]
                        go_simp
                        exact hK _ _ _ (by simp only [inv.dstsL, inv.putT, Nat.reduceAdd, List.set_cons_zero, List.set_cons_succ, h2]; (try rfl)) (⟨hS.1, fun h => hS.2.1 (by simpa using h), fun h => hS.2.2 (by simpa using h)⟩) (rfl) (fun _ _ _ _ h => h)
                      · clear hold; clear hcl; simp only [inv.dstsL, inv.putT, Nat.reduceAdd, List.set_cons_zero, List.set_cons_succ]
                        have h0 : (vs 0) = .agg #[(.slice va ns.length vc), (.slice vb ds.length ve)] := hD 0 (by kernel_rfl)
                        have h3 : (vs 3) = .string z3 := hD 3 (by kernel_rfl)
                        have d6 := hno 6 (by kernel_rfl)
                        have hb := hS.2.1 d6
                        rw [h0, h3]
                        go_simp
                        refine (RF.out W hS.1 z3 r2 HR2.out).mono ?_; rintro e W2 ⟨rfl, b2⟩
                        go_wp2_with fail
                        exact hK _ _ _ (by simp only [inv.dstsL, inv.putT, Nat.reduceAdd, List.set_cons_zero, List.set_cons_succ, h0, h3]; (try rfl)) (⟨hS.1.trans (b2.mono (bsz2 hS.1)), fun _ => by rw [b2.block B (lt_of_block hb)]; exact hb, fun h => by simp [d6] at h⟩) (rfl) (fun j v _ _ => (DRn2.kept trivial) j v)
                      · clear hold; clear hcl; simp only [inv.dstsL, inv.putT, Nat.reduceAdd, List.set_cons_zero, List.set_cons_succ]
                        go_simp
                        exact hK _ _ _ (by simp only [inv.dstsL, inv.putT, Nat.reduceAdd, List.set_cons_zero, List.set_cons_succ]; (try rfl)) (⟨hS.1, fun h => hS.2.1 (by simpa using h), fun h => hS.2.2 (by simpa using h)⟩) (rfl) (fun _ _ _ _ h => h)
                      · clear hold; clear hcl; simp only [inv.dstsL, inv.putT, Nat.reduceAdd, List.set_cons_zero, List.set_cons_succ]
                        have h4 : (vs 4) = .int .i64 r2 := hD 4 (by kernel_rfl)
                        have h5 : (vs 5) = .pointer (some ⟨B, 3, none⟩) := hD 5 (by kernel_rfl)
                        have hb := hS.2.1 hme
                        obtain ⟨⟨e0, e1, e2, e3, e4⟩, f0, f1, f2, f3, f4⟩ := dev5 hb
                        rw [h4, h5]
                        go_simp
                        exact hK undef _ _ (by simp only [inv.dstsL, inv.putT, Nat.reduceAdd, List.set_cons_zero, List.set_cons_succ, h4, h5]; (try rfl)) (⟨hS.1.setCell HB2.out _, fun h => by simp at h, fun _ => set_at (i := 3) (.int .i64 r2) hb⟩) (by first | rfl | trivial) (fun j v _ _ => (DRn2.kept trivial) j v)
                    case rest =>
                      intro vs W done hdone hS hD
                      have hb6 := hS.2.2 (hdone 6 (by decide))
                      have hbel6 := hS.1
                      simp only [inv.dstsL, inv.putT, Nat.reduceAdd, List.set_cons_zero, List.set_cons_succ]
                      generalize vs 0 = x0, vs 1 = x1, vs 2 = x2, vs 3 = x3, vs 4 = x4, vs 5 = x5 at *
                      clear hD hdone hS
                      have HB6 := Lib.hid hbel6
                      have hb6c := dev5 hb6
                      obtain ⟨⟨e0, e1, e2, e3, e4⟩, -⟩ := hb6c
                      by_cases x1 : r1 = -1
                      · have T5 : decide (r1 < 0) = true := decide_eq_true (by omega)
                        have x1n : r1 < 0 := by omega
                        have HE3 : Hid (EE = 3) := by show _ = _; rw [← HE2.out, if_pos (.inl x1)]
                        obtain ⟨k0, k1, k2, k3⟩ := arr2 (RB.out W HB6.out)
                        obtain ⟨m0, m1, -, -⟩ := arr2 (XB.out W HB6.out)
                        have TS := Lib.hid (two_set (.slice va ns.length vc) (.slice vb ds.length ve) (RB.out W HB6.out) rfl)
                        have BE := Lib.hid (((BB2.out W HB6.out).setCell (p := ⟨w.heap.size + 1, 0, none⟩) (by show base ≤ w.heap.size + 1; have := HB.out; omega) (.slice va ns.length vc)).setCell (p := ⟨w.heap.size + 1, 1, none⟩) (by show base ≤ w.heap.size + 1; have := HB.out; omega) (.slice vb ds.length ve))
                        go_wp2
                        refine bodyPost_ret (v := .tuple #[.agg #[.slice va ns.length vc, .slice vb ds.length ve], .int .i64 3]) (by simp [results, Tryd.results37, go_sem, TS.out.1, TS.out.2]) rfl ?_
                        refine ⟨_, _, _, _, _, _, by rw [HE3.out], BE.out, fun h => ?_⟩
                        rw [HE3.out] at h; cases h
                      · have T5 : decide (r1 < 0) = false := decide_eq_false (by omega)
                        have x1n : ¬ r1 < 0 := by omega
                        by_cases x2 : r2 = -1
                        · have T6 : decide (r2 < 0) = true := decide_eq_true (by omega)
                          have x2n : r2 < 0 := by omega
                          have HE3 : Hid (EE = 3) := by show _ = _; rw [← HE2.out, if_pos (.inr x2)]
                          obtain ⟨k0, k1, k2, k3⟩ := arr2 (RB.out W HB6.out)
                          obtain ⟨m0, m1, -, -⟩ := arr2 (XB.out W HB6.out)
                          have TS := Lib.hid (two_set (.slice va ns.length vc) (.slice vb ds.length ve) (RB.out W HB6.out) rfl)
                          have BE := Lib.hid (((BB2.out W HB6.out).setCell (p := ⟨w.heap.size + 1, 0, none⟩) (by show base ≤ w.heap.size + 1; have := HB.out; omega) (.slice va ns.length vc)).setCell (p := ⟨w.heap.size + 1, 1, none⟩) (by show base ≤ w.heap.size + 1; have := HB.out; omega) (.slice vb ds.length ve))
                          go_wp2
                          refine bodyPost_ret (v := .tuple #[.agg #[.slice va ns.length vc, .slice vb ds.length ve], .int .i64 3]) (by simp [results, Tryd.results37, go_sem, TS.out.1, TS.out.2]) rfl ?_
                          refine ⟨_, _, _, _, _, _, by rw [HE3.out], BE.out, fun h => ?_⟩
                          rw [HE3.out] at h; cases h
                        · have T6 : decide (r2 < 0) = false := decide_eq_false (by omega)
                          have x2n : ¬ r2 < 0 := by omega
                          have HE0 : Hid (EE = 0) := by show _ = _; rw [← HE2.out, if_neg (fun h => h.elim x1 x2)]
                          have NW := Lib.hid (N0.out W HB6.out)
                          have DW : Hid (W.ownsRow base 47 5 (.slice vb ds.length ve) ds.length (flat encDv ds)) := D0.out W HB6.out
                          obtain ⟨m0, m1, m2, m3⟩ := arr2 (XB.out W HB6.out)
                          have hsz := bsz2 HB6.out
                          have BX7 := Lib.hid (XB.out W HB6.out)
                          have BR7 := Lib.hid (RB.out W HB6.out)
                          have BW7 := Lib.hid (BB2.out W HB6.out)
                          clear hbel6 hb6
                          have OWA : Hid ((W.alloc (.cells #[.string z1, .int .i64 (k : Int), .int .i64 r1, .int .i64 r2, .int .i64 co] 47)).ownsRow base 47 5 (.slice vb ds.length ve) ds.length (flat encDv ds)) := World.ownsRow.alloc DW.out _
                          go_wp2_with (at_builtin; go_must (refine wpList_append_own _ rfl (.tmp 139) (.tmp 141) 24 rfl base 47 i0 _ 5 48 Tryd.underlying24 hi hz0 hz1 hz2 rfl (by decide) (.slice vb ds.length ve) ds.length (flat encDv ds) rfl OWA.out _ 1 1 (encDv ⟨z1, (k : Int), r1, r2, co⟩) rfl rfl ?qc1 ?qc2 ?qc3 ?qc4 ?qc5 ?_))
                          case qc1 => exact fun j u h => h
                          case qc2 => exact encDv_one _
                          case qc3 => unfold maxLen; have := NL.out; omega
                          case qc4 => have := NL.out; omega
                          case qc5 => have := HB.out; simp; omega
                          intro v7 W7 hown7 hgrow7 _
                          have x7 : W7.heap[w.heap.size]? = _ := (hgrow7.block w.heap.size (by simp; omega) (fun q => aggs_ne (D0.out W HB6.out) BX7.out NN2 q.symm)).trans (((below_box W _).block w.heap.size (by omega)).trans BX7.out)
                          have r7 : W7.heap[w.heap.size + 1]? = _ := (hgrow7.block (w.heap.size + 1) (by simp; omega) (fun q => aggs_ne (D0.out W HB6.out) BR7.out NN2 q.symm)).trans (((below_box W _).block (w.heap.size + 1) (by omega)).trans BR7.out)
                          obtain ⟨a9, c9, rfl⟩ : ∃ a9 c9, v7 = .slice a9 (ds.length + 1) c9 := by
                            obtain ⟨a9, c9, e, -⟩ := AggsAt.length (AggsAt.push (xs := ds) (x := ⟨z1, (k : Int), r1, r2, co⟩) (enc := encDv) hown7) encDv_len
                            exact ⟨a9, c9, by rw [e, List.length_append]; rfl⟩
                          have A7 : AggsAt 47 5 encDv W7 base (.slice a9 (ds.length + 1) c9) (ds ++ [⟨z1, (k : Int), r1, r2, co⟩]) := AggsAt.push hown7
                          have B7 : AggsAt 51 3 encNd W7 base (.slice va ns.length vc) ns := by
                            refine World.ownsRow.kept (AggsAt.alloc NW.out _) hgrow7 ?_
                            cases e : (Value.slice va ns.length vc).ownBlock with
                            | none => exact .inl rfl
                            | some q => right; exact fun e2 => own_type DW.out NW.out (by decide) q e2.symm e
                          have o7 : ∀ q, (Value.slice vb ds.length ve).ownBlock = some q → base ≤ q := fun q hq => (World.ownsRow.lt DW.out q hq).1
                          have L7 : Below base w W7 := (BW7.out.alloc (by have := HB.out; omega) _).grown hgrow7 (by have := HB.out; simp; omega) o7
                          obtain ⟨p0, p1, p2, p3⟩ := arr2 x7
                          obtain ⟨k0, k1, k2, k3⟩ := arr2 r7
                          have x8 := set_at (i := 1) (.slice a9 (ds.length + 1) c9) x7
                          have r8 : (W7.setCell ⟨w.heap.size, 1, none⟩ (.slice a9 (ds.length + 1) c9)).heap[w.heap.size + 1]? = _ := (Below.heap_setCell _ _ _ _ (by show w.heap.size + 1 ≠ w.heap.size; omega)).trans r7
                          have r9 := set_at (i := 0) (.slice va ns.length vc) r8
                          have TS := Lib.hid (two_set (.slice va ns.length vc) (.slice a9 (ds.length + 1) c9) r8 rfl)
                          have BE := Lib.hid (((L7.setCell (p := ⟨w.heap.size, 1, none⟩) HB.out (.slice a9 (ds.length + 1) c9)).setCell (p := ⟨w.heap.size + 1, 0, none⟩) (by show base ≤ w.heap.size + 1; have := HB.out; omega) (.slice va ns.length vc)).setCell (p := ⟨w.heap.size + 1, 1, none⟩) (by show base ≤ w.heap.size + 1; have := HB.out; omega) (.slice a9 (ds.length + 1) c9))
                          have A9 := Lib.hid (aggs_far (aggs_far (aggs_far B7 x7 NN1 1 (.slice a9 (ds.length + 1) c9)) r8 NN1 0 (.slice va ns.length vc)) r9 NN1 1 (.slice a9 (ds.length + 1) c9))
                          have D9 := Lib.hid (aggs_far (aggs_far (aggs_far A7 x7 NN2 1 (.slice a9 (ds.length + 1) c9)) r8 NN2 0 (.slice va ns.length vc)) r9 NN2 1 (.slice a9 (ds.length + 1) c9))
                          obtain ⟨k4, k5, k6, k7⟩ := arr2 r8
                          obtain ⟨q0, q1, -, -⟩ := arr2 x8
                          clear x7 r7 r8 r9 x8 A7 B7 L7 o7 hown7 hgrow7
                          go_wp2
                          refine bodyPost_ret (v := .tuple #[.agg #[.slice va ns.length vc, .slice a9 (ds.length + 1) c9], .int .i64 0]) (by simp [results, Tryd.results37, go_sem, TS.out.1, TS.out.2]) rfl ?_
                          exact ⟨_, _, _, _, _, _, by rw [HE0.out], BE.out, fun _ => ⟨A9.out, by rw [← HYk.out]; exact D9.out⟩⟩
              · have T4 : (zc.toList == [99, 111, 109, 112, 97, 110, 121]) = false := eqF (by rw [← hzc, bs_data]; exact q4)
                have hE : devE ns k [s1, s2, s3, s4, s5] = 2 := by
                  unfold devE
                  rw [if_neg (show ¬ (k : Int) = 0 by omega), if_pos (by omega)]
                  exact if_neg (fun h => q4 h.2.1)
                have HE2 : Hid (EE = 2) := by show _ = _; rw [← HEk.out, hE]
                clear hE hzc q4 hz hn cnw
                obtain ⟨k0, k1, k2, k3⟩ := arr2 (RB.out W HK.out)
                obtain ⟨m0, m1, -, -⟩ := arr2 (XB.out W HK.out)
                have TS := Lib.hid (two_set (.slice va ns.length vc) (.slice vb ds.length ve) (RB.out W HK.out) rfl)
                have BE := Lib.hid (((BB2.out W HK.out).setCell (p := ⟨w.heap.size + 1, 0, none⟩) (by show base ≤ w.heap.size + 1; have := HB.out; omega) (.slice va ns.length vc)).setCell (p := ⟨w.heap.size + 1, 1, none⟩) (by show base ≤ w.heap.size + 1; have := HB.out; omega) (.slice vb ds.length ve))
                go_wp2
                refine bodyPost_ret (v := .tuple #[.agg #[.slice va ns.length vc, .slice vb ds.length ve], .int .i64 2]) (by simp [results, Tryd.results37, go_sem, TS.out.1, TS.out.2]) rfl ?_
                refine ⟨_, _, _, _, _, _, by rw [HE2.out], BE.out, fun h => ?_⟩
                rw [HE2.out] at h; cases h
            · have hE : devE ns k t = 2 := by
                unfold devE
                rw [if_neg (show ¬ (k : Int) = 0 by omega), if_pos (by omega)]
                exact if_neg (fun h => h6 (by rw [← hn, List.length_cons, h.1]))
              have HE2 : Hid (EE = 2) := by show _ = _; rw [← HEk.out, hE]
              have T6 : ((n : Int) != 6) = true := by rw [bne_iff_ne]; omega
              clear hE hz hn
              obtain ⟨k0, k1, k2, k3⟩ := arr2 (RB.out W HK.out)
              obtain ⟨m0, m1, -, -⟩ := arr2 (XB.out W HK.out)
              have TS := Lib.hid (two_set (.slice va ns.length vc) (.slice vb ds.length ve) (RB.out W HK.out) rfl)
              have BE := Lib.hid (((BB2.out W HK.out).setCell (p := ⟨w.heap.size + 1, 0, none⟩) (by show base ≤ w.heap.size + 1; have := HB.out; omega) (.slice va ns.length vc)).setCell (p := ⟨w.heap.size + 1, 1, none⟩) (by show base ≤ w.heap.size + 1; have := HB.out; omega) (.slice vb ds.length ve))
              go_wp2
              refine bodyPost_ret (v := .tuple #[.agg #[.slice va ns.length vc, .slice vb ds.length ve], .int .i64 2]) (by simp [results, Tryd.results37, go_sem, TS.out.1, TS.out.2]) rfl ?_
              refine ⟨_, _, _, _, _, _, by rw [HE2.out], BE.out, fun h => ?_⟩
              rw [HE2.out] at h; cases h
          · have JO := Lib.hid (rjoins_is (k : Int) false (decide_eq_false (by omega)) W)
            go_wp2_with fail
            refine JO.out.mono ?_; rintro e8 W ⟨rfl, rfl⟩
            by_cases h6 : n = 5
            · subst h6
              obtain ⟨s1, s2, s3, s4, rfl⟩ : ∃ s1 s2 s3 s4, t = [s1, s2, s3, s4] := by
                match t, hn with
                | [s1, s2, s3, s4], _ => exact ⟨_, _, _, _, rfl⟩
              have ccw := WCs.out W HK.out 3 s3 rfl
              have cnw := WCs.out W HK.out 4 s4 rfl
              obtain ⟨zc, hzc⟩ : ∃ z, bs s3 = z := ⟨_, rfl⟩
              rw [hzc] at ccw
              by_cases q4 : s3 = wCom
              · have T4 : (zc.toList == [99, 111, 109, 112, 97, 110, 121]) = true := eqT (by rw [← hzc, bs_data]; exact q4)
                have u5 : (bs s4).size ≤ maxLen := by have := hz s4 (by simp); rw [bs_size]; unfold maxLen; omega
                obtain ⟨co, hco⟩ : ∃ v, numV s4 lim = v := ⟨_, rfl⟩
                obtain ⟨b2, hb2⟩ : ∃ v, numB s4 lim = v := ⟨_, rfl⟩
                have NB := rnumber_any (bs s4) lim W u5 (by unfold lim; omega) (by unfold lim; omega)
                rw [bs_data, hco, hb2] at NB
                obtain ⟨zn, hzn⟩ : ∃ z, bs s4 = z := ⟨_, rfl⟩
                rw [hzn] at cnw NB
                unfold lim at NB
                have NB := Lib.hid NB
                obtain ⟨r1, hr1⟩ : ∃ z, fnd (nmsN ns) (bs s2) = z := ⟨_, rfl⟩
                have hE : devE ns k [s1, s2, s3, s4] = if b2 = true then (if r1 = -1 then 3 else 0) else 2 := by
                  rw [← hb2]
                  unfold devE
                  rw [if_neg (show ¬ (k : Int) = 0 by omega), if_neg (by omega)]
                  by_cases q : numB s4 lim = true
                  · exact (if_pos ⟨rfl, q4, q⟩).trans ((show (if fnd (nmsN ns) (bs s2) = -1 then (3 : Int) else 0) = _ from by rw [hr1]).trans (if_pos q).symm)
                  · exact (if_neg (fun h => q h.2.2)).trans (if_neg q).symm
                have hY : devY ns k [s1, s2, s3, s4] = ⟨bs s1, k, r1, -1, co⟩ := by
                  unfold devY
                  rw [if_neg (by omega), ← hco, ← hr1]; rfl
                rw [hE] at HEk
                rw [hY] at HYk
                have WZ1 := Lib.hid (fun W h => WCs.out W h 1 s1 rfl)
                have WZ2 := Lib.hid (fun W h => WCs.out W h 2 s2 rfl)
                obtain ⟨z1, hz1⟩ : ∃ z, bs s1 = z := ⟨_, rfl⟩
                obtain ⟨z2, hz2⟩ : ∃ z, bs s2 = z := ⟨_, rfl⟩
                rw [hz1] at WZ1 HYk
                rw [hz2] at WZ2 hr1
                have HR1 := Lib.hid hr1
                have F1 := fnd_ge (nmsN ns) z2
                rw [hr1] at F1
                clear hE hY hco hb2 hzc hzn hz1 hz2 q4 u5 hz hn hr1
                cases b2
                · have HE2 : Hid (EE = 2) := by show _ = _; rw [← HEk.out, if_neg (fun h => by cases h)]
                  go_wp2_with fail
                  refine NB.out.mono ?_; rintro e9 w9 ⟨rfl, rfl⟩
                  obtain ⟨k0, k1, k2, k3⟩ := arr2 (RB.out W HK.out)
                  obtain ⟨m0, m1, -, -⟩ := arr2 (XB.out W HK.out)
                  have TS := Lib.hid (two_set (.slice va ns.length vc) (.slice vb ds.length ve) (RB.out W HK.out) rfl)
                  have BE := Lib.hid (((BB2.out W HK.out).setCell (p := ⟨w.heap.size + 1, 0, none⟩) (by show base ≤ w.heap.size + 1; have := HB.out; omega) (.slice va ns.length vc)).setCell (p := ⟨w.heap.size + 1, 1, none⟩) (by show base ≤ w.heap.size + 1; have := HB.out; omega) (.slice vb ds.length ve))
                  go_wp2
                  refine bodyPost_ret (v := .tuple #[.agg #[.slice va ns.length vc, .slice vb ds.length ve], .int .i64 2]) (by simp [results, Tryd.results37, go_sem, TS.out.1, TS.out.2]) rfl ?_
                  refine ⟨_, _, _, _, _, _, by rw [HE2.out], BE.out, fun h => ?_⟩
                  rw [HE2.out] at h; cases h
                · have HE2 : Hid ((if r1 = -1 then (3 : Int) else 0) = EE) := by show _ = _; rw [← HEk.out, if_pos rfl]
                  go_wp2_with fail
                  refine NB.out.mono ?_; rintro e9 w9 ⟨rfl, rfl⟩
                  go_wp2_with fail
                  refine inv.wp_region_inv3 (fun done vs W => Below (w.heap.size + 2) ((w.alloc (.cells #[.slice va ns.length vc, .slice vb ds.length ve] 26)).alloc (.cells #[.slice none 0 0, .slice none 0 0] 26)) W ∧ (done 12 = true → ∃ B, vs 11 = .pointer (some ⟨B, 0, none⟩) ∧ W.heap[B]? = some (.cells #[.string z1, .int .i64 (k : Int), .int .i64 r1, .int .i64 (-1), .int .i64 co] 47 (0, 0)) ∧ w.heap.size + 2 ≤ B)) (DRm w.heap.size g 5 c k (.slice va ns.length vc) (.slice vb ds.length ve) z1 z2 r1 co) (by kernel_rfl) (by kernel_rfl) (⟨HK.out.drew, fun h => by cases h⟩) ?steps ?rest
                  case steps =>
                    refine ⟨fun vs W done hS hD hno hold hcl hme K hK => ?_, fun vs W done hS hD hno hold hcl hme K hK => ?_, fun vs W done hS hD hno hold hcl hme K hK => ?_, fun vs W done hS hD hno hold hcl hme K hK => ?_, fun vs W done hS hD hno hold hcl hme K hK => ?_, fun vs W done hS hD hno hold hcl hme K hK => ?_, fun vs W done hS hD hno hold hcl hme K hK => ?_, fun vs W done hS hD hno hold hcl hme K hK => ?_, fun vs W done hS hD hno hold hcl hme K hK => ?_, fun vs W done hS hD hno hold hcl hme K hK => ?_, fun vs W done hS hD hno hold hcl hme K hK => ?_, fun vs W done hS hD hno hold hcl hme K hK => ?_, fun vs W done hS hD hno hold hcl hme K hK => ?_, trivial⟩
                    · clear hold; clear hcl; simp only [inv.dstsL, inv.putT, Nat.reduceAdd, List.set_cons_zero, List.set_cons_succ]
                      go_simp
                      exact hK _ _ _ (by simp only [inv.dstsL, inv.putT, Nat.reduceAdd, List.set_cons_zero, List.set_cons_succ]; (try rfl)) (⟨hS.1, fun h => hS.2 (by simpa using h)⟩) (rfl) (fun _ _ _ _ h => h)
                    · clear hold; clear hcl; simp only [inv.dstsL, inv.putT, Nat.reduceAdd, List.set_cons_zero, List.set_cons_succ]
                      have h0 : (vs 0) = .slice (some ⟨g, 0, none⟩) 5 c := hD 0 (by kernel_rfl)
                      rw [h0]
                      go_simp
                      exact hK _ _ _ (by simp only [inv.dstsL, inv.putT, Nat.reduceAdd, List.set_cons_zero, List.set_cons_succ, h0]; (try rfl)) (⟨hS.1, fun h => hS.2 (by simpa using h)⟩) (rfl) (fun _ _ _ _ h => h)
                    · clear hold; clear hcl; simp only [inv.dstsL, inv.putT, Nat.reduceAdd, List.set_cons_zero, List.set_cons_succ]
                      have h1 : (vs 1) = .pointer (some ⟨g, 1, none⟩) := hD 1 (by kernel_rfl)
                      have c0 : W.cell? ⟨g, 1, none⟩ = some (.string z1) := WZ1.out W hS.1
                      rw [h1]
                      go_simp
                      exact hK _ _ _ (by simp only [inv.dstsL, inv.putT, Nat.reduceAdd, List.set_cons_zero, List.set_cons_succ, h1]; (try rfl)) (⟨hS.1, fun h => hS.2 (by simpa using h)⟩) (rfl) (fun _ _ _ _ h => h)
                    · clear hold; clear hcl; simp only [inv.dstsL, inv.putT, Nat.reduceAdd, List.set_cons_zero, List.set_cons_succ]
                      go_simp
                      exact hK _ _ _ (by simp only [inv.dstsL, inv.putT, Nat.reduceAdd, List.set_cons_zero, List.set_cons_succ]; (try rfl)) (⟨hS.1, fun h => hS.2 (by simpa using h)⟩) (rfl) (fun _ _ _ _ h => h)
                    · clear hold; clear hcl; simp only [inv.dstsL, inv.putT, Nat.reduceAdd, List.set_cons_zero, List.set_cons_succ]
                      obtain ⟨m0, m1, -, -⟩ := arr2 (XB.out W hS.1)
                      go_simp
                      exact hK _ _ _ (by simp only [inv.dstsL, inv.putT, Nat.reduceAdd, List.set_cons_zero, List.set_cons_succ]; (try rfl)) (⟨hS.1, fun h => hS.2 (by simpa using h)⟩) (rfl) (fun _ _ _ _ h => h)
                    · clear hold; clear hcl; simp only [inv.dstsL, inv.putT, Nat.reduceAdd, List.set_cons_zero, List.set_cons_succ]
                      go_simp
                      exact hK _ _ _ (by simp only [inv.dstsL, inv.putT, Nat.reduceAdd, List.set_cons_zero, List.set_cons_succ]; (try rfl)) (⟨hS.1, fun h => hS.2 (by simpa using h)⟩) (rfl) (fun _ _ _ _ h => h)
                    · clear hold; clear hcl; simp only [inv.dstsL, inv.putT, Nat.reduceAdd, List.set_cons_zero, List.set_cons_succ]
                      have h5 : (vs 5) = .slice (some ⟨g, 0, none⟩) 5 c := hD 5 (by kernel_rfl)
                      rw [h5]
                      go_simp
                      exact hK _ _ _ (by simp only [inv.dstsL, inv.putT, Nat.reduceAdd, List.set_cons_zero, List.set_cons_succ, h5]; (try rfl)) (⟨hS.1, fun h => hS.2 (by simpa using h)⟩) (rfl) (fun _ _ _ _ h => h)
                    · clear hold; clear hcl; simp only [inv.dstsL, inv.putT, Nat.reduceAdd, List.set_cons_zero, List.set_cons_succ]
                      have h6 : (vs 6) = .pointer (some ⟨g, 2, none⟩) := hD 6 (by kernel_rfl)
                      have c0 : W.cell? ⟨g, 2, none⟩ = some (.string z2) := WZ2.out W hS.1
                      rw [h6]
                      go_simp
                      exact hK _ _ _ (by simp only [inv.dstsL, inv.putT, Nat.reduceAdd, List.set_cons_zero, List.set_cons_succ, h6]; (try rfl)) (⟨hS.1, fun h => hS.2 (by simpa using h)⟩) (rfl) (fun _ _ _ _ h => h)
                    · clear hold; clear hcl; simp only [inv.dstsL, inv.putT, Nat.reduceAdd, List.set_cons_zero, List.set_cons_succ]
                      have h4 : (vs 4) = .agg #[(.slice va ns.length vc), (.slice vb ds.length ve)] := hD 4 (by kernel_rfl)
                      have h7 : (vs 7) = .string z2 := hD 7 (by kernel_rfl)
                      rw [h4, h7]
                      go_simp
                      refine (RF.out W hS.1 z2 r1 HR1.out).mono ?_; rintro e W2 ⟨rfl, b2⟩
                      go_wp2_with fail
                      exact hK _ _ _ (by simp only [inv.dstsL, inv.putT, Nat.reduceAdd, List.set_cons_zero, List.set_cons_succ, h4, h7]; (try rfl)) (⟨hS.1.trans (b2.mono (bsz2 hS.1)), fun h => by obtain ⟨B, q1, q2, q3⟩ := hS.2 (by simpa using h); exact ⟨B, q1, by rw [b2.block B (lt_of_block q2)]; exact q2, q3⟩⟩) (rfl) (fun j v _ _ => (DRm.kept b2) j v)
                    · clear hold; clear hcl; simp only [inv.dstsL, inv.putT, Nat.reduceAdd, List.set_cons_zero, List.set_cons_succ]
                      go_simp
                      exact hK _ _ _ (by simp only [inv.dstsL, inv.putT, Nat.reduceAdd, List.set_cons_zero, List.set_cons_succ]; (try rfl)) (⟨hS.1, fun h => hS.2 (by simpa using h)⟩) (rfl) (fun _ _ _ _ h => h)
                    · clear hold; clear hcl; simp only [inv.dstsL, inv.putT, Nat.reduceAdd, List.set_cons_zero, List.set_cons_succ]
                      have h2 : (vs 2) = .string z1 := hD 2 (by kernel_rfl)
                      have h3 : (vs 3) = .int .i64 (k : Int) := hD 3 (by kernel_rfl)
                      have h8 : (vs 8) = .int .i64 r1 := hD 8 (by kernel_rfl)
                      have h9 : (vs 9) = .int .i64 co := hD 9 (by kernel_rfl)
                      rw [h2, h3, h8, h9]
                      go_simp
                      exact hK _ _ _ (by simp only [inv.dstsL, inv.putT, Nat.reduceAdd, List.set_cons_zero, List.set_cons_succ, h2, h3, h8, h9]; (try rfl)) (⟨hS.1, fun h => hS.2 (by simpa using h)⟩) (rfl) (fun _ _ _ _ h => h)
                    · clear hold; clear hcl; simp only [inv.dstsL, inv.putT, Nat.reduceAdd, List.set_cons_zero, List.set_cons_succ]
                      have d12 := hno 12 (by kernel_rfl)
                      go_simp
                      exact hK _ _ _ (by simp only [inv.dstsL, inv.putT, Nat.reduceAdd, List.set_cons_zero, List.set_cons_succ]; (try rfl)) (⟨hS.1.trans ((below_box W _).mono (bsz2 hS.1)), fun h => by simp [d12] at h⟩) (⟨W.heap.size, _, _, _, _, _, rfl, heap_alloc_new _ _, bsz2 hS.1⟩) (fun j v _ _ => (DRm.kept (below_box W _)) j v)
                    · clear hold; clear hcl; simp only [inv.dstsL, inv.putT, Nat.reduceAdd, List.set_cons_zero, List.set_cons_succ]
                      have h10 : (vs 10) = .agg #[.string z1, .int .i64 (k : Int), .int .i64 r1, .int .i64 (-1), .int .i64 co] := hD 10 (by kernel_rfl)
                      have h11 : ∃ B y0 y1 y2 y3 y4, (vs 11) = .pointer (some ⟨B, 0, none⟩) ∧ W.heap[B]? = some (.cells #[y0, y1, y2, y3, y4] 47 (0, 0)) ∧ w.heap.size + 2 ≤ B := hD 11 (by kernel_rfl)
                      obtain ⟨B, y0, y1, y2, y3, y4, h11, hb, hB⟩ := h11
                      obtain ⟨⟨e0, e1, e2, e3, e4⟩, f0, f1, f2, f3, f4⟩ := dev5 hb
                      rw [h10, h11]
                      go_simp
                      exact hK undef _ _ (by simp only [inv.dstsL, inv.putT, Nat.reduceAdd, List.set_cons_zero, List.set_cons_succ, h10, h11]; (try rfl)) (⟨((((hS.1.setCell hB _).setCell hB _).setCell hB _).setCell hB _).setCell hB _, fun _ => ⟨B, h11, dev_set hb _ _ _ _ _, hB⟩⟩) (by first | rfl | trivial) (fun j v _ _ h => DRm.kept2 hb (dev_set hb _ _ _ _ _) (dev_far _ _ _ _ _) j v h)
                  case rest =>
                    intro vs W done hdone hS hD
                    obtain ⟨hbel, hBB⟩ := hS
                    obtain ⟨B, hp, hb, hB2⟩ := hBB (hdone 12 (by decide))
                    simp only [inv.dstsL, inv.putT, Nat.reduceAdd, List.set_cons_zero, List.set_cons_succ]
                    rw [hp]
                    have HB2 := Lib.hid hB2
                    have HBE := Lib.hid hbel
                    generalize vs 0 = y0, vs 1 = y1, vs 2 = y2, vs 3 = y3, vs 4 = y4, vs 5 = y5, vs 6 = y6, vs 7 = y7, vs 8 = y8, vs 9 = y9, vs 10 = y10 at *
                    clear hD hdone hBB hp
                    have hb6 := hb
                    have hbel6 := hbel
                    clear hb hbel
                    have HB6 := Lib.hid hbel6
                    have hb6c := dev5 hb6
                    obtain ⟨⟨e0, e1, e2, e3, e4⟩, -⟩ := hb6c
                    by_cases x1 : r1 = -1
                    · have T5 : decide (r1 < 0) = true := decide_eq_true (by omega)
                      have x1n : r1 < 0 := by omega
                      have HE3 : Hid (EE = 3) := by show _ = _; rw [← HE2.out, if_pos x1]
                      obtain ⟨k0, k1, k2, k3⟩ := arr2 (RB.out W HB6.out)
                      obtain ⟨m0, m1, -, -⟩ := arr2 (XB.out W HB6.out)
                      have TS := Lib.hid (two_set (.slice va ns.length vc) (.slice vb ds.length ve) (RB.out W HB6.out) rfl)
                      have BE := Lib.hid (((BB2.out W HB6.out).setCell (p := ⟨w.heap.size + 1, 0, none⟩) (by show base ≤ w.heap.size + 1; have := HB.out; omega) (.slice va ns.length vc)).setCell (p := ⟨w.heap.size + 1, 1, none⟩) (by show base ≤ w.heap.size + 1; have := HB.out; omega) (.slice vb ds.length ve))
                      go_wp2
                      refine bodyPost_ret (v := .tuple #[.agg #[.slice va ns.length vc, .slice vb ds.length ve], .int .i64 3]) (by simp [results, Tryd.results37, go_sem, TS.out.1, TS.out.2]) rfl ?_
                      refine ⟨_, _, _, _, _, _, by rw [HE3.out], BE.out, fun h => ?_⟩
                      rw [HE3.out] at h; cases h
                    · have T5 : decide (r1 < 0) = false := decide_eq_false (by omega)
                      have x1n : ¬ r1 < 0 := by omega
                      have HE0 : Hid (EE = 0) := by show _ = _; rw [← HE2.out, if_neg x1]
                      have NW := Lib.hid (N0.out W HB6.out)
                      have DW : Hid (W.ownsRow base 47 5 (.slice vb ds.length ve) ds.length (flat encDv ds)) := D0.out W HB6.out
                      obtain ⟨m0, m1, m2, m3⟩ := arr2 (XB.out W HB6.out)
                      have hsz := bsz2 HB6.out
                      have BX7 := Lib.hid (XB.out W HB6.out)
                      have BR7 := Lib.hid (RB.out W HB6.out)
                      have BW7 := Lib.hid (BB2.out W HB6.out)
                      clear hbel6 hb6
                      have OWA : Hid ((W.alloc (.cells #[.string z1, .int .i64 (k : Int), .int .i64 r1, .int .i64 (-1), .int .i64 co] 47)).ownsRow base 47 5 (.slice vb ds.length ve) ds.length (flat encDv ds)) := World.ownsRow.alloc DW.out _
                      go_wp2_with (at_builtin; go_must (refine wpList_append_own _ rfl (.tmp 139) (.tmp 141) 24 rfl base 47 i0 _ 5 48 Tryd.underlying24 hi hz0 hz1 hz2 rfl (by decide) (.slice vb ds.length ve) ds.length (flat encDv ds) rfl OWA.out _ 1 1 (encDv ⟨z1, (k : Int), r1, (-1), co⟩) rfl rfl ?qc1 ?qc2 ?qc3 ?qc4 ?qc5 ?_))
                      case qc1 => exact fun j u h => h
                      case qc2 => exact encDv_one _
                      case qc3 => unfold maxLen; have := NL.out; omega
                      case qc4 => have := NL.out; omega
                      case qc5 => have := HB.out; simp; omega
                      intro v7 W7 hown7 hgrow7 _
                      have x7 : W7.heap[w.heap.size]? = _ := (hgrow7.block w.heap.size (by simp; omega) (fun q => aggs_ne (D0.out W HB6.out) BX7.out NN2 q.symm)).trans (((below_box W _).block w.heap.size (by omega)).trans BX7.out)
                      have r7 : W7.heap[w.heap.size + 1]? = _ := (hgrow7.block (w.heap.size + 1) (by simp; omega) (fun q => aggs_ne (D0.out W HB6.out) BR7.out NN2 q.symm)).trans (((below_box W _).block (w.heap.size + 1) (by omega)).trans BR7.out)
                      obtain ⟨a9, c9, rfl⟩ : ∃ a9 c9, v7 = .slice a9 (ds.length + 1) c9 := by
                        obtain ⟨a9, c9, e, -⟩ := AggsAt.length (AggsAt.push (xs := ds) (x := ⟨z1, (k : Int), r1, (-1), co⟩) (enc := encDv) hown7) encDv_len
                        exact ⟨a9, c9, by rw [e, List.length_append]; rfl⟩
                      have A7 : AggsAt 47 5 encDv W7 base (.slice a9 (ds.length + 1) c9) (ds ++ [⟨z1, (k : Int), r1, (-1), co⟩]) := AggsAt.push hown7
                      have B7 : AggsAt 51 3 encNd W7 base (.slice va ns.length vc) ns := by
                        refine World.ownsRow.kept (AggsAt.alloc NW.out _) hgrow7 ?_
                        cases e : (Value.slice va ns.length vc).ownBlock with
                        | none => exact .inl rfl
                        | some q => right; exact fun e2 => own_type DW.out NW.out (by decide) q e2.symm e
                      have o7 : ∀ q, (Value.slice vb ds.length ve).ownBlock = some q → base ≤ q := fun q hq => (World.ownsRow.lt DW.out q hq).1
                      have L7 : Below base w W7 := (BW7.out.alloc (by have := HB.out; omega) _).grown hgrow7 (by have := HB.out; simp; omega) o7
                      obtain ⟨p0, p1, p2, p3⟩ := arr2 x7
                      obtain ⟨k0, k1, k2, k3⟩ := arr2 r7
                      have x8 := set_at (i := 1) (.slice a9 (ds.length + 1) c9) x7
                      have r8 : (W7.setCell ⟨w.heap.size, 1, none⟩ (.slice a9 (ds.length + 1) c9)).heap[w.heap.size + 1]? = _ := (Below.heap_setCell _ _ _ _ (by show w.heap.size + 1 ≠ w.heap.size; omega)).trans r7
                      have r9 := set_at (i := 0) (.slice va ns.length vc) r8
                      have TS := Lib.hid (two_set (.slice va ns.length vc) (.slice a9 (ds.length + 1) c9) r8 rfl)
                      have BE := Lib.hid (((L7.setCell (p := ⟨w.heap.size, 1, none⟩) HB.out (.slice a9 (ds.length + 1) c9)).setCell (p := ⟨w.heap.size + 1, 0, none⟩) (by show base ≤ w.heap.size + 1; have := HB.out; omega) (.slice va ns.length vc)).setCell (p := ⟨w.heap.size + 1, 1, none⟩) (by show base ≤ w.heap.size + 1; have := HB.out; omega) (.slice a9 (ds.length + 1) c9))
                      have A9 := Lib.hid (aggs_far (aggs_far (aggs_far B7 x7 NN1 1 (.slice a9 (ds.length + 1) c9)) r8 NN1 0 (.slice va ns.length vc)) r9 NN1 1 (.slice a9 (ds.length + 1) c9))
                      have D9 := Lib.hid (aggs_far (aggs_far (aggs_far A7 x7 NN2 1 (.slice a9 (ds.length + 1) c9)) r8 NN2 0 (.slice va ns.length vc)) r9 NN2 1 (.slice a9 (ds.length + 1) c9))
                      obtain ⟨k4, k5, k6, k7⟩ := arr2 r8
                      obtain ⟨q0, q1, -, -⟩ := arr2 x8
                      clear x7 r7 r8 r9 x8 A7 B7 L7 o7 hown7 hgrow7
                      go_wp2
                      refine bodyPost_ret (v := .tuple #[.agg #[.slice va ns.length vc, .slice a9 (ds.length + 1) c9], .int .i64 0]) (by simp [results, Tryd.results37, go_sem, TS.out.1, TS.out.2]) rfl ?_
                      exact ⟨_, _, _, _, _, _, by rw [HE0.out], BE.out, fun _ => ⟨A9.out, by rw [← HYk.out]; exact D9.out⟩⟩
              · have T4 : (zc.toList == [99, 111, 109, 112, 97, 110, 121]) = false := eqF (by rw [← hzc, bs_data]; exact q4)
                have hE : devE ns k [s1, s2, s3, s4] = 2 := by
                  unfold devE
                  rw [if_neg (show ¬ (k : Int) = 0 by omega), if_neg (by omega)]
                  exact if_neg (fun h => q4 h.2.1)
                have HE2 : Hid (EE = 2) := by show _ = _; rw [← HEk.out, hE]
                clear hE hzc q4 hz hn cnw
                obtain ⟨k0, k1, k2, k3⟩ := arr2 (RB.out W HK.out)
                obtain ⟨m0, m1, -, -⟩ := arr2 (XB.out W HK.out)
                have TS := Lib.hid (two_set (.slice va ns.length vc) (.slice vb ds.length ve) (RB.out W HK.out) rfl)
                have BE := Lib.hid (((BB2.out W HK.out).setCell (p := ⟨w.heap.size + 1, 0, none⟩) (by show base ≤ w.heap.size + 1; have := HB.out; omega) (.slice va ns.length vc)).setCell (p := ⟨w.heap.size + 1, 1, none⟩) (by show base ≤ w.heap.size + 1; have := HB.out; omega) (.slice vb ds.length ve))
                go_wp2
                refine bodyPost_ret (v := .tuple #[.agg #[.slice va ns.length vc, .slice vb ds.length ve], .int .i64 2]) (by simp [results, Tryd.results37, go_sem, TS.out.1, TS.out.2]) rfl ?_
                refine ⟨_, _, _, _, _, _, by rw [HE2.out], BE.out, fun h => ?_⟩
                rw [HE2.out] at h; cases h
            · have hE : devE ns k t = 2 := by
                unfold devE
                rw [if_neg (show ¬ (k : Int) = 0 by omega), if_neg (by omega)]
                exact if_neg (fun h => h6 (by rw [← hn, List.length_cons, h.1]))
              have HE2 : Hid (EE = 2) := by show _ = _; rw [← HEk.out, hE]
              have T6 : ((n : Int) != 5) = true := by rw [bne_iff_ne]; omega
              clear hE hz hn
              obtain ⟨k0, k1, k2, k3⟩ := arr2 (RB.out W HK.out)
              obtain ⟨m0, m1, -, -⟩ := arr2 (XB.out W HK.out)
              have TS := Lib.hid (two_set (.slice va ns.length vc) (.slice vb ds.length ve) (RB.out W HK.out) rfl)
              have BE := Lib.hid (((BB2.out W HK.out).setCell (p := ⟨w.heap.size + 1, 0, none⟩) (by show base ≤ w.heap.size + 1; have := HB.out; omega) (.slice va ns.length vc)).setCell (p := ⟨w.heap.size + 1, 1, none⟩) (by show base ≤ w.heap.size + 1; have := HB.out; omega) (.slice vb ds.length ve))
              go_wp2
              refine bodyPost_ret (v := .tuple #[.agg #[.slice va ns.length vc, .slice vb ds.length ve], .int .i64 2]) (by simp [results, Tryd.results37, go_sem, TS.out.1, TS.out.2]) rfl ?_
              refine ⟨_, _, _, _, _, _, by rw [HE2.out], BE.out, fun h => ?_⟩
              rw [HE2.out] at h; cases h
      · have T1 : (z0.toList == (bs (kw k)).toList) = false := data_eq.trans (decide_eq_false (fun h => hs (HZD.out.symm.trans h)))
        have hno2 : Hid (∀ j : Nat, 1 ≤ j → j < k + 1 → s0 ≠ kw j) := fun j h1 h2 => by
          by_cases q : j = k
          · subst q; exact hs
          · exact hno.out j h1 (by omega)
        have hk6d : decide ((k : Int) ≤ 6) = true := decide_eq_true (by omega)
        clear hs hno
        go_wp2_with fail
        refine inv.wp_region_inv2 (fun _ W => Below (w.heap.size + 2) ((w.alloc (.cells #[.slice va ns.length vc, .slice vb ds.length ve] 26)).alloc (.cells #[.slice none 0 0, .slice none 0 0] 26)) W) (DRk g n c k z0 true) (by kernel_rfl) (by kernel_rfl) HS00.out ?steps ?rest
        case steps =>
          refine ⟨fun vs W done hS hD hno hold hcl hme K hK => ?_, fun vs W done hS hD hno hold hcl hme K hK => ?_, fun vs W done hS hD hno hold hcl hme K hK => ?_, fun vs W done hS hD hno hold hcl hme K hK => ?_, fun vs W done hS hD hno hold hcl hme K hK => ?_, fun vs W done hS hD hno hold hcl hme K hK => ?_, trivial⟩
          · clear hold; clear hcl; simp only [inv.dstsL, inv.putT, Nat.reduceAdd, List.set_cons_zero, List.set_cons_succ]
            go_simp
            exact hK _ _ _ (by simp only [inv.dstsL, inv.putT, Nat.reduceAdd, List.set_cons_zero, List.set_cons_succ]; (try rfl)) (hS) (rfl) (fun _ _ _ _ h => h)
          · clear hold; clear hcl; simp only [inv.dstsL, inv.putT, Nat.reduceAdd, List.set_cons_zero, List.set_cons_succ]
            have h0 : (vs 0) = .slice (some ⟨g, 0, none⟩) n c := hD 0 (by kernel_rfl)
            rw [h0]
            go_simp
            try (rw [if_pos (by omega)]; go_simp)
            exact hK _ _ _ (by simp only [inv.dstsL, inv.putT, Nat.reduceAdd, List.set_cons_zero, List.set_cons_succ, h0]; (try rfl)) (hS) (rfl) (fun _ _ _ _ h => h)
          · clear hold; clear hcl; simp only [inv.dstsL, inv.putT, Nat.reduceAdd, List.set_cons_zero, List.set_cons_succ]
            have h1 : (vs 1) = .pointer (some ⟨g, 0, none⟩) := hD 1 (by kernel_rfl)
            have c0 : W.cell? ⟨g, 0, none⟩ = some (.string z0) := WZ0.out W hS
            rw [h1]
            go_simp
            exact hK _ _ _ (by simp only [inv.dstsL, inv.putT, Nat.reduceAdd, List.set_cons_zero, List.set_cons_succ, h1]; (try rfl)) (hS) (rfl) (fun _ _ _ _ h => h)
          · clear hold; clear hcl; simp only [inv.dstsL, inv.putT, Nat.reduceAdd, List.set_cons_zero, List.set_cons_succ]
            go_simp
            exact hK _ _ _ (by simp only [inv.dstsL, inv.putT, Nat.reduceAdd, List.set_cons_zero, List.set_cons_succ]; (try rfl)) (hS) (rfl) (fun _ _ _ _ h => h)
          · clear hold; clear hcl; simp only [inv.dstsL, inv.putT, Nat.reduceAdd, List.set_cons_zero, List.set_cons_succ]
            have h3 : (vs 3) = .int .i64 (k : Int) := hD 3 (by kernel_rfl)
            rw [h3]
            go_simp
            refine (rword_is k hk6 W).mono ?_; rintro e W2 ⟨rfl, b2⟩
            go_wp2_with fail
            exact hK _ _ _ (by simp only [inv.dstsL, inv.putT, Nat.reduceAdd, List.set_cons_zero, List.set_cons_succ, h3]; (try rfl)) (hS.trans (b2.mono (bsz2 hS))) (rfl) (fun j v _ _ => (DRk.kept trivial) j v)
          · clear hold; clear hcl; simp only [inv.dstsL, inv.putT, Nat.reduceAdd, List.set_cons_zero, List.set_cons_succ]
            have h2 : (vs 2) = .string z0 := hD 2 (by kernel_rfl)
            have h4 : (vs 4) = .string (bs (kw k)) := hD 4 (by kernel_rfl)
            rw [h2, h4]
            go_simp
            exact hK _ _ _ (by simp only [inv.dstsL, inv.putT, Nat.reduceAdd, List.set_cons_zero, List.set_cons_succ, h2, h4]; (try rfl)) (hS) (rfl) (fun _ _ _ _ h => h)
        case rest =>
          intro vs W done hdone hS hD
          have h5 : (vs 5) = .bool true := hD 5 (by decide)
          simp only [inv.dstsL, inv.putT, Nat.reduceAdd, List.set_cons_zero, List.set_cons_succ]
          rw [h5]
          have HW := Lib.hid hS
          generalize vs 0 = y0, vs 1 = y1, vs 2 = y2, vs 3 = y3, vs 4 = y4 at *
          clear hD hdone hS h5
          go_wp2
          go_roundw
          case rel => exact ⟨k + 1, by omega, by omega, by go_num, HW, hno2⟩
          case measure => simp [intOf]; omega
    · obtain rfl : k = 7 := by omega
      have HE2 : Hid (EE = 2) := by show _ = _; rw [← HEE.out, kind_not hno.out]; rfl
      obtain ⟨k0, k1, k2, k3⟩ := arr2 (RB.out wr bel.out)
      obtain ⟨m0, m1, -, -⟩ := arr2 (XB.out wr bel.out)
      have TS := Lib.hid (two_set (.slice va ns.length vc) (.slice vb ds.length ve) (RB.out wr bel.out) rfl)
      have BE := Lib.hid (((BB2.out wr bel.out).setCell (p := ⟨w.heap.size + 1, 0, none⟩) (by show base ≤ w.heap.size + 1; have := HB.out; omega) (.slice va ns.length vc)).setCell (p := ⟨w.heap.size + 1, 1, none⟩) (by show base ≤ w.heap.size + 1; have := HB.out; omega) (.slice vb ds.length ve))
      go_wp2
      refine bodyPost_ret (v := .tuple #[.agg #[.slice va ns.length vc, .slice vb ds.length ve], .int .i64 2]) (by simp [results, Tryd.results37, go_sem, TS.out.1, TS.out.2]) rfl ?_
      refine ⟨_, _, _, _, _, _, by rw [HE2.out], BE.out, fun h => ?_⟩
      rw [HE2.out] at h; cases h
end Go.Proofs.YtdgllaiejhnjmaaDoor.mod

/- The walk of the reference's Parse. Condition: none. -/
namespace Go.Proofs.YtdgllaiejhnjmaaDoor.mod
open Go.RowKit lex net aggs kit strs deck

theorem radd_is (w : World) (base base2 : Nat) (vn vd v : Value) (ns : List Nd) (ds : List Dv) (ws : List (List UInt8)) (hn : AggsAt 51 3 encNd w base vn ns) (hd : AggsAt 47 5 encDv w base vd ds) (hbase : base ≤ w.heap.size)
    (hv : StrsAt w base2 v ws) (hne : ws ≠ []) (hz : ∀ s ∈ ws, s.length ≤ 200000) (hl : ns.length ≤ 200000) (hld : ds.length ≤ 200000) (hnl : ws.length ≤ 200000) :
    Calls Tryd.prog 37 #[.agg #[vn, vd], v] w (AddRPost w base ns ds ws) := by
  cases ws with
  | nil => exact absurd rfl hne
  | cons s0 t =>
    rcases hv.shape with ⟨_, e⟩ | ⟨g, c, e, hbg, hgl, hlen, hcap, hcell⟩
    · cases e
    · subst e
      obtain ⟨C, hC⟩ : ∃ C, w.heap[g]? = some (.cells C 9 (0, 0)) := by
        rcases hv.2 with ⟨h2, _⟩ | ⟨g', cap, cur, e', hb, hh, -⟩
        · cases h2
        · simp only [Value.slice.injEq, Option.some.injEq, Addr.mk.injEq, and_true, true_and] at e'
          rw [← e'.1] at hh
          exact ⟨_, hh⟩
      have hw : WIn w g 0 (s0 :: t) := fun i hi => by
        have := hcell i hi
        rw [Nat.zero_add]; exact this
      by_cases q : s0 = wNode
      · subst q
        exact radd_node w base g _ c C vn vd ns ds t hn hd hbase hw rfl hgl hC (fun s hs => hz s (List.mem_cons_of_mem _ hs)) hl hnl
      · exact radd_dev w base g _ c C vn vd ns ds s0 t hn hd hbase hw rfl hgl (fun s hs => hz s (List.mem_cons_of_mem _ hs)) hl hld hnl q
set_option maxRecDepth 100000 in
set_option maxHeartbeats 2000000 in
theorem rparse_is (s : ByteArray) (w : World) (hs : s.size ≤ 1099511627776) :
    Calls Tryd.prog 19 #[.string s] w (ParsePost s.data.toList w) := by
  obtain ⟨r, hr⟩ : ∃ r, lines s.data.toList = r := ⟨_, rfl⟩
  have BX := Lib.hid (below_box w (.cells #[.slice none 0 0, .slice none 0 0] 26))
  have HB : Hid ((w.alloc (.cells #[.slice none 0 0, .slice none 0 0] 26)).heap[w.heap.size]? = some (.cells #[.slice none 0 0, .slice none 0 0] 26 (0, 0))) := heap_alloc_new _ _
  have LN := rlines_any s (w.alloc (.cells #[.slice none 0 0, .slice none 0 0] 26)) (by unfold maxLen; omega)
  rw [hr] at LN
  have LN := Lib.hid LN
  have HR := Lib.hid hr
  clear hr
  go_enter Tryd.func19, Tryd.ntmps19
  go_wp2_with fail
  refine LN.out.mono ?_; rintro e w1 ⟨v, rfl, hv, b1⟩
  have B1 : Hid (Below (w.heap.size + 1) (w.alloc (.cells #[.slice none 0 0, .slice none 0 0] 26)) w1) := by show Below _ _ _; simpa using b1
  have BW := Lib.hid (BX.out.trans (B1.out.mono (Nat.le_succ _)))
  have hb1 : w1.heap[w.heap.size]? = some (.cells #[.slice none 0 0, .slice none 0 0] 26 (0, 0)) := (B1.out.block _ (Nat.lt_succ_self _)).trans HB.out
  have hv' : StrsAt w1 (w.heap.size + 1) v (r.getD []) := by simpa using hv
  have HV := Lib.hid hv'
  clear b1 hv hv' HB
  cases r with
  | none =>
    have PN := Lib.hid (parse_none HR.out)
    obtain ⟨k0, k1, k2, k3⟩ := arr2 hb1
    have TS := Lib.hid (two_set (.slice none 0 0) (.slice none 0 0) hb1 rfl)
    have BE := Lib.hid ((BW.out.setCell (p := ⟨w.heap.size, 0, none⟩) (Nat.le_refl _) (.slice none 0 0)).setCell (p := ⟨w.heap.size, 1, none⟩) (Nat.le_refl _) (.slice none 0 0))
    clear hb1
    go_wp2
    refine bodyPost_ret (v := .tuple #[.agg #[.slice none 0 0, .slice none 0 0], .int .i64 0, .int .i64 2]) (by simp [results, Tryd.results19, go_sem, TS.out.1, TS.out.2]) rfl ?_
    unfold ParsePost
    rw [PN.out]
    exact ⟨none, 0, 0, none, 0, 0, rfl, net_none _, BE.out⟩
  | some L =>
    obtain ⟨a, cl, rfl, hLm⟩ := HV.out.length
    rw [Option.getD_some] at hLm
    have HV2 : Hid (StrsAt w1 (w.heap.size + 1) (.slice a L.length cl) L) := HV.out
    obtain ⟨hws, hsz⟩ := lines_wsum HR.out
    have hL := length_le_wsum L
    have HZ : Hid (∀ l ∈ L, l.length ≤ 65536) := fun l hl => by have := mem_wsum_le hl; omega
    have hL2 : L.length ≤ 65536 := by omega
    clear hws hsz hL hLm HV
    obtain ⟨n, hn⟩ : ∃ n, L.length = n := ⟨_, rfl⟩
    have HN := Lib.hid hn
    have ROW : Hid (∀ (j : Nat) (hj : j < L.length), ∃ g, a = some ⟨g, 0, none⟩ ∧ g < w1.heap.size ∧ w1.cell? ⟨g, j, none⟩ = some (.string (bs L[j]))) := fun j hj => by
      rcases HV2.out.shape with ⟨_, e⟩ | ⟨g, c, e, _, hg, _, _, hc⟩
      · rw [e] at hj; cases hj
      · injection e with e1 e2 e3
        exact ⟨g, e1, hg, hc j hj⟩
    have HX0 : Hid (PB (w1.alloc (.cells #[.slice none 0 0, .slice none 0 0] 26)) w1.heap.size (.slice none 0 0) (.slice none 0 0) [] []) := ⟨⟨_, heap_alloc_new _ _⟩, AggsAt.nil _ _ _ _ _, AggsAt.nil _ _ _ _ _⟩
    have HXB : Hid (Below w1.heap.size w1 (w1.alloc (.cells #[.slice none 0 0, .slice none 0 0] 26))) := below_box _ _
    have hwx : w.heap.size < w1.heap.size := lt_of_block hb1
    obtain ⟨x, hx⟩ : ∃ x, w1.heap.size = x := ⟨_, rfl⟩
    have HXE := Lib.hid hx
    rw [hx] at HX0 HXB hwx
    have HB1 := Lib.hid hb1
    rw [hn] at hL2
    simp only [Option.isSome, Option.getD, hn]
    clear hx hn hb1 HV2
    go_wp2_with fail
    rw [HXE.out]
    go_loopw [8] (fun iv wr => ∃ (j : Nat) (vn vd : Value) (st : List Nd × List Dv), iv = .int .i64 j ∧ j ≤ n ∧ Hid (PB wr x vn vd st.1 st.2) ∧ Hid (Below x w1 wr) ∧ Hid (RI j st) ∧ Hid (At L j st)) (fun iv _ => n - (intOf iv).toNat)
    case atStart => exact ⟨0, _, _, ([], []), rfl, Nat.zero_le _, HX0, HXB, RI.start, At.start L⟩
    case round =>
      clear HX0 HXB
      obtain ⟨j, vn, vd, st, rfl, hj, pb, bel, ri, hat⟩ := hrel
      have BL : Hid (Below w.heap.size w wr) := BW.out.trans (bel.out.mono (Nat.le_of_lt hwx))
      have BX2 := Lib.hid pb.out.lt
      by_cases hjn : j < n
      · have hjl : j < L.length := by rw [HN.out]; exact hjn
        obtain ⟨g, rfl, hg, hc⟩ := ROW.out j hjl
        have c0 : wr.cell? ⟨g, j, none⟩ = some (.string (bs L[j])) := (bel.out.cell (p := ⟨g, j, none⟩) (by rw [← HXE.out]; exact hg)).trans hc
        have hlz := HZ.out _ (List.getElem_mem hjl)
        have WC := rwords_any (bs L[j]) wr (by rw [bs_size]; omega)
        rw [bs_data] at WC
        unfold WordsPost at WC
        have WC := Lib.hid WC
        have hww := words_wsum L[j]
        have hwg : ∀ q ∈ words L[j], lex.Good q := words_good L[j]
        have hwz : ∀ q ∈ words L[j], q.length ≤ 200000 := fun q hq => by have := mem_wsum_le hq; omega
        have hwl : (words L[j]).length ≤ 200000 := by have := length_le_wsum (words L[j]); omega
        have AL := Lib.hid (fun w2 v2 (hv2 : StrsAt w2 wr.heap.size v2 (words L[j])) (b2 : Below wr.heap.size wr w2) (hne : words L[j] ≠ []) =>
          radd_is w2 (x + 1) wr.heap.size vn vd v2 st.1 st.2 (words L[j]) (pb.out.below b2).rn (pb.out.below b2).rd (Nat.lt_of_lt_of_le BX2.out b2.size) hv2 hne hwz (by have := ri.out.nl; omega) (by have := ri.out.dl; omega) hwl)
        have NX := Lib.hid (ri.out.line (by omega) hwz)
        have NA := Lib.hid (fun e => hat.out.next hjl e)
        have NB := Lib.hid (fun e => hat.out.bad HR.out hjl e)
        generalize words L[j] = ws at *
        generalize L[j] = lj at *
        obtain ⟨va, vc, rfl⟩ : ∃ a c, vn = .slice a st.1.length c := by obtain ⟨a, c, e, -⟩ := pb.out.rn.length encNd_len; exact ⟨a, c, e⟩
        obtain ⟨vb, ve, rfl⟩ : ∃ a c, vd = .slice a st.2.length c := by obtain ⟨a, c, e, -⟩ := pb.out.rd.length encDv_len; exact ⟨a, c, e⟩
        clear hc hlz hww hwz hwl hjl hg
        cases ws with
        | nil =>
          have hst : lineS st [] = st := rfl
          rw [hst] at NX NA
          clear hst
          go_wp2_with fail
          refine WC.out.mono ?_; rintro e w2 ⟨v2, rfl, hv2, b2⟩
          obtain ⟨a2, c2, rfl, -⟩ := hv2.length
          have BB := Lib.hid (bel.out.trans (b2.mono (Nat.le_of_lt BX2.out)))
          have PW := Lib.hid (pb.out.below b2)
          clear hv2 b2
          go_wp2
          go_roundw
          case rel => exact ⟨j + 1, _, _, st, by go_num, by omega, PW.out, BB.out, NX.out, NA.out rfl⟩
          case measure => simp [intOf]; omega
        | cons s0 t =>
          obtain ⟨hs0, -⟩ := hwg s0 List.mem_cons_self
          obtain ⟨z, hzz⟩ : ∃ z, bs s0 = z := ⟨_, rfl⟩
          have hzd : z.data.toList = s0 := by rw [← hzz, bs_data]
          have Z0 : 0 < z.size := by rw [← hzz, bs_size]; exact List.length_pos_iff.2 hs0
          have hz0 : s0.head? = some z[0] := by
            have e1 : s0[0]? = some z[0] := by subst hzd; rw [List.getElem?_eq_getElem (by simpa using Z0)]; congr 1
            rw [← e1]; cases s0 <;> rfl
          have hsk : skipB (s0 :: t) = (z[0] == 35) := by
            show (false || (s0.head? == some 35)) = _
            rw [hz0]; rfl
          clear hz0 hzd hs0 hwg
          by_cases q : z[0] = 35
          · have e1 : skipB (s0 :: t) = true := by rw [hsk, q]; rfl
            have hst : lineS st (s0 :: t) = st := by unfold lineS; rw [if_pos e1]
            have he0 : lineE st.1 (s0 :: t) = 0 := by unfold lineE; rw [if_pos e1]
            rw [hst] at NX NA
            have NA2 := Lib.hid (NA.out he0)
            have T1 : ((z[0].toNat : Int) == 35) = true := by rw [q]; rfl
            clear hsk e1 hst he0 q NA
            go_wp2_with fail
            refine WC.out.mono ?_; rintro e w2 ⟨v2, rfl, hv2, b2⟩
            rcases hv2.shape with ⟨_, e⟩ | ⟨g2, c2, rfl, hbg, hgl, hlen, hcap, hcell⟩
            · cases e
            · have c0w := hcell 0 (by simp)
              rw [List.getElem_cons_zero, hzz] at c0w
              have BB := Lib.hid (bel.out.trans (b2.mono (Nat.le_of_lt BX2.out)))
              have PW := Lib.hid (pb.out.below b2)
              obtain ⟨n2, hn2⟩ : ∃ n2, t.length = n2 := ⟨_, rfl⟩
              rw [List.length_cons, hn2]
              clear hv2 b2 hcell hzz hn2
              go_wp2
              go_roundw
              case rel => exact ⟨j + 1, _, _, st, by go_num, by omega, PW.out, BB.out, NX.out, NA2.out⟩
              case measure => simp [intOf]; omega
          · have e1 : skipB (s0 :: t) = false := by rw [hsk]; exact beq_eq_false_iff_ne.2 q
            have hle : lineE st.1 (s0 :: t) = addE st.1 (s0 :: t) := by unfold lineE; rw [if_neg (by rw [e1]; decide)]
            have hls : lineS st (s0 :: t) = addS st (s0 :: t) := by unfold lineS; rw [if_neg (by rw [e1]; decide)]
            obtain ⟨E, hE⟩ : ∃ E, addE st.1 (s0 :: t) = E := ⟨_, rfl⟩
            rw [hle, hE] at NA NB
            rw [hls] at NX NA
            have HE := Lib.hid hE
            have T1 : ((z[0].toNat : Int) == 35) = false := by
              rw [beq_eq_false_iff_ne]; intro k
              exact q (UInt8.toNat_inj.1 (by have : z[0].toNat = 35 := by omega
                                             rw [this]; rfl))
            clear hsk e1 q hle hls hE
            by_cases e0 : E = 0
            · have T : (E != 0) = false := by rw [e0]; rfl
              have E0 := Lib.hid e0
              have NA2 := Lib.hid (NA.out e0)
              clear e0 NA
              go_wp2_with fail
              refine WC.out.mono ?_; rintro e w2 ⟨v2, rfl, hv2, b2⟩
              have AL2 := AL.out w2 v2 hv2 b2 (by simp)
              unfold AddRPost at AL2
              rw [HE.out] at AL2
              have AL2 := Lib.hid AL2
              rcases hv2.shape with ⟨_, e⟩ | ⟨g2, c2, rfl, hbg, hgl, hlen, hcap, hcell⟩
              · cases e
              · have c0w := hcell 0 (by simp)
                rw [List.getElem_cons_zero, hzz] at c0w
                have BB := Lib.hid (bel.out.trans (b2.mono (Nat.le_of_lt BX2.out)))
                have PW := Lib.hid (pb.out.below b2)
                obtain ⟨p0, p1, p2, p3⟩ := PW.out.cells
                obtain ⟨n2, hn2⟩ : ∃ n2, t.length = n2 := ⟨_, rfl⟩
                rw [List.length_cons, hn2] at AL2 ⊢
                clear hv2 b2 hcell hzz hn2
                go_wp2_with fail
                all_goals (try (exfalso; omega))
                refine AL2.out.mono ?_; rintro e w3 ⟨a3, N3, c3, b3, M3, d3, rfl, bl3, hp⟩
                obtain ⟨hp1, hp2⟩ := hp E0.out
                obtain ⟨T3, hx3⟩ := PW.out.net
                have hx3' : w3.heap[x]? = _ := (bl3.block x (Nat.lt_succ_self _)).trans hx3
                have bx4 := below_box w3 (.cells #[.slice a3 N3 c3, .slice b3 M3 d3] 26)
                have hx4 : (w3.alloc (.cells #[.slice a3 N3 c3, .slice b3 M3 d3] 26)).heap[x]? = _ := (bx4.block x (lt_of_block hx3')).trans hx3'
                have hx5 := set_at (i := 1) (.slice b3 M3 d3) (set_at (i := 0) (.slice a3 N3 c3) hx4)
                obtain ⟨k0, k1, k2, k3⟩ := arr2 hx4
                have gs : (w3.alloc (.cells #[.slice a3 N3 c3, .slice b3 M3 d3] 26)).grownBy (((w3.alloc (.cells #[.slice a3 N3 c3, .slice b3 M3 d3] 26)).setCell ⟨x, 0, none⟩ (.slice a3 N3 c3)).setCell ⟨x, 1, none⟩ (.slice b3 M3 d3)) (some x) := gb_set _ (gb_set _ (gb_refl _ _))
                have PF : Hid (PB (((w3.alloc (.cells #[.slice a3 N3 c3, .slice b3 M3 d3] 26)).setCell ⟨x, 0, none⟩ (.slice a3 N3 c3)).setCell ⟨x, 1, none⟩ (.slice b3 M3 d3)) x (.slice a3 N3 c3) (.slice b3 M3 d3) (addS st (s0 :: t)).1 (addS st (s0 :: t)).2) :=
                  ⟨⟨T3, by simpa using hx5⟩, (hp1.below bx4).grown gs (fun k hk => by cases hk; omega), (hp2.below bx4).grown gs (fun k hk => by cases hk; omega)⟩
                have BF : Hid (Below x w1 (((w3.alloc (.cells #[.slice a3 N3 c3, .slice b3 M3 d3] 26)).setCell ⟨x, 0, none⟩ (.slice a3 N3 c3)).setCell ⟨x, 1, none⟩ (.slice b3 M3 d3))) :=
                  (((BB.out.trans (bl3.mono (Nat.le_succ _))).trans (bx4.mono (Nat.le_of_lt (lt_of_block hx3')))).setCell (p := ⟨x, 0, none⟩) (Nat.le_refl _) _).setCell (p := ⟨x, 1, none⟩) (Nat.le_refl _) _
                clear hx3 hx3' hx4 hx5 bx4 gs hp hp1 hp2 bl3 p0 p1 p2 p3
                go_wp2
                go_roundw
                case rel => exact ⟨j + 1, _, _, addS st (s0 :: t), by go_num, by omega, PF, BF, NX.out, NA2.out⟩
                case measure => simp [intOf]; omega
            · have T := bne_t e0
              have NB2 := Lib.hid (NB.out e0)
              clear e0 NB
              go_wp2_with fail
              refine WC.out.mono ?_; rintro e w2 ⟨v2, rfl, hv2, b2⟩
              have AL2 := AL.out w2 v2 hv2 b2 (by simp)
              unfold AddRPost at AL2
              rw [HE.out] at AL2
              have AL2 := Lib.hid AL2
              rcases hv2.shape with ⟨_, e⟩ | ⟨g2, c2, rfl, hbg, hgl, hlen, hcap, hcell⟩
              · cases e
              · have c0w := hcell 0 (by simp)
                rw [List.getElem_cons_zero, hzz] at c0w
                have BB := Lib.hid (bel.out.trans (b2.mono (Nat.le_of_lt BX2.out)))
                have PW := Lib.hid (pb.out.below b2)
                obtain ⟨p0, p1, p2, p3⟩ := PW.out.cells
                obtain ⟨n2, hn2⟩ : ∃ n2, t.length = n2 := ⟨_, rfl⟩
                rw [List.length_cons, hn2] at AL2 ⊢
                clear hv2 b2 hcell hzz hn2
                go_wp2_with fail
                all_goals (try (exfalso; omega))
                refine AL2.out.mono ?_; rintro e w3 ⟨a3, N3, c3, b3, M3, d3, rfl, bl3, -⟩
                have bx4 := below_box w3 (.cells #[.slice a3 N3 c3, .slice b3 M3 d3] 26)
                have B3 := Lib.hid ((BB.out.trans (bl3.mono (Nat.le_succ _))).trans (bx4.mono (by have := (BB.out.trans (bl3.mono (Nat.le_succ _))).size; have := HXE.out; omega)))
                have hb3 : (w3.alloc (.cells #[.slice a3 N3 c3, .slice b3 M3 d3] 26)).heap[w.heap.size]? = _ := (B3.out.block _ hwx).trans HB1.out
                obtain ⟨k0, k1, k2, k3⟩ := arr2 hb3
                have TS := Lib.hid (two_set (.slice none 0 0) (.slice none 0 0) hb3 rfl)
                have BE := Lib.hid (((BW.out.trans (B3.out.mono (Nat.le_of_lt hwx))).setCell (p := ⟨w.heap.size, 0, none⟩) (Nat.le_refl _) (.slice none 0 0)).setCell (p := ⟨w.heap.size, 1, none⟩) (Nat.le_refl _) (.slice none 0 0))
                have hw64 : IntKind.i64.wrap ((j : Int) + 1) = ((j + 1 : Nat) : Int) := by rw [IntKind.wrap_i64]; omega
                clear hb3 bl3 bx4 p0 p1 p2 p3
                go_wp2
                refine bodyPost_ret (v := .tuple #[.agg #[.slice none 0 0, .slice none 0 0], .int .i64 ((j + 1 : Nat) : Int), .int .i64 E]) (by simp [results, Tryd.results19, go_sem, TS.out.1, TS.out.2]) rfl ?_
                unfold ParsePost
                rw [NB2.out]
                exact ⟨none, 0, 0, none, 0, 0, rfl, net_none _, BE.out⟩
      · obtain rfl : n = j := by omega
        have hf := At.fin (st := st) (by rw [HN.out]; exact hat.out) HR.out
        obtain ⟨va, vc, vb, ve, rfl, rfl, hnet⟩ := ri.out.net pb.out
        obtain ⟨E, hE⟩ : ∃ E, chk st.1 st.2 = E := ⟨_, rfl⟩
        rw [hE] at hf
        obtain ⟨p0, p1, -, -⟩ := pb.out.cells
        have CK := Lib.hid (rcheck_is va vb st.1.length vc st.2.length ve st.1 st.2 E wr hnet hE)
        have NI := Lib.hid (fun W (b : Below wr.heap.size wr W) => hnet.below b)
        have HF := Lib.hid hf
        clear hE hf hnet
        by_cases e0 : E = 0
        · subst e0
          have HF2 : Hid (parseR s.data.toList = (st, 0, 0)) := by show _ = _; rw [HF.out, if_pos rfl]
          go_wp2_with fail
          refine CK.out.mono ?_; rintro e w3 ⟨rfl, b3⟩
          have B3 := Lib.hid (bel.out.trans (b3.mono (Nat.le_of_lt BX2.out)))
          have hb3 : w3.heap[w.heap.size]? = _ := (B3.out.block _ hwx).trans HB1.out
          obtain ⟨k0, k1, k2, k3⟩ := arr2 hb3
          have p0' : w3.cell? ⟨x, 0, none⟩ = _ := (b3.cell (p := ⟨x, 0, none⟩) BX2.out).trans p0
          have p1' : w3.cell? ⟨x, 1, none⟩ = _ := (b3.cell (p := ⟨x, 1, none⟩) BX2.out).trans p1
          have TS := Lib.hid (two_set (.slice va st.1.length vc) (.slice vb st.2.length ve) hb3 rfl)
          have BE := Lib.hid (((BW.out.trans (B3.out.mono (Nat.le_of_lt hwx))).setCell (p := ⟨w.heap.size, 0, none⟩) (Nat.le_refl _) (.slice va st.1.length vc)).setCell (p := ⟨w.heap.size, 1, none⟩) (Nat.le_refl _) (.slice vb st.2.length ve))
          have NIE := Lib.hid (NetIn.far (NI.out w3 b3) pb.out b3 hwx rfl rfl)
          clear hb3 b3 p0 p1
          go_wp2
          refine bodyPost_ret (v := .tuple #[.agg #[.slice va st.1.length vc, .slice vb st.2.length ve], .int .i64 0, .int .i64 0]) (by simp [results, Tryd.results19, go_sem, TS.out.1, TS.out.2]) rfl ?_
          unfold ParsePost
          rw [HF2.out]
          exact ⟨va, _, vc, vb, _, ve, rfl, NIE.out _ _, BE.out⟩
        · have T := bne_t e0
          have HF2 : Hid (parseR s.data.toList = (([], []), 0, E)) := by show _ = _; rw [HF.out, if_neg e0]
          clear e0
          go_wp2_with fail
          refine CK.out.mono ?_; rintro e w3 ⟨rfl, b3⟩
          have B3 := Lib.hid (bel.out.trans (b3.mono (Nat.le_of_lt BX2.out)))
          have hb3 : w3.heap[w.heap.size]? = _ := (B3.out.block _ hwx).trans HB1.out
          obtain ⟨k0, k1, k2, k3⟩ := arr2 hb3
          have TS := Lib.hid (two_set (.slice none 0 0) (.slice none 0 0) hb3 rfl)
          have BE := Lib.hid (((BW.out.trans (B3.out.mono (Nat.le_of_lt hwx))).setCell (p := ⟨w.heap.size, 0, none⟩) (Nat.le_refl _) (.slice none 0 0)).setCell (p := ⟨w.heap.size, 1, none⟩) (Nat.le_refl _) (.slice none 0 0))
          clear hb3 b3 p0 p1
          go_wp2
          refine bodyPost_ret (v := .tuple #[.agg #[.slice none 0 0, .slice none 0 0], .int .i64 0, .int .i64 E]) (by simp [results, Tryd.results19, go_sem, TS.out.1, TS.out.2]) rfl ?_
          unfold ParsePost
          rw [HF2.out]
          exact ⟨none, 0, 0, none, 0, 0, rfl, net_none _, BE.out⟩
end Go.Proofs.YtdgllaiejhnjmaaDoor.mod
