/- A person that is made of numbers: mk.Person. It is valid. No condition. -/
import Derived.Test.YtceidbjjciejhaaDoorRgA
import Derived.Test.YtceidbjjciejhaaDoorMkNm
namespace Go.Proofs.YtceidbjjciejhaaDoor.reg
open Go.RowKit lex aggs kit net deck

/-- what mk.Person leaves -/
def PersonPost (w0 w : World) (a : Option Addr) (len cap bd : Nat) (e : Ending) (w' : World) : Prop :=
  ∃ p : Pn, e = .returned (pnV p) ∧ pnE p = 0 ∧ p.nm.size ≤ maxLen ∧ Game w0 w' bd a len cap ∧ w.grownBy w' (some bd)
theorem made_ok {k : Nat} {c s f u : Int} (hk : k < 100) (c0 : 0 ≤ c) (c1 : c < 3) (s0 : 0 ≤ s) (s1 : s < 32) (f0 : 0 ≤ f) (f1 : f < 2000) (u0 : 0 ≤ u) (u1 : u < 1500) : pnE ⟨nmB 80 k, c, s, f, f + 1 + u⟩ = 0 :=
  pnE_zero.2 ⟨nmB_name (by decide) hk, ⟨⟨c0, by dsimp only; omega⟩, s0, by dsimp only; omega⟩, f0, by dsimp only; omega, by dsimp only; omega⟩
theorem gb_tr {W W1 W2 : World} {bd : Nat} (h : W.grownBy W1 (some bd)) (g : W1.grownBy W2 (some bd)) : W.grownBy W2 (some bd) := h.andThen g (fun _ hj => .inr hj)
set_option maxRecDepth 100000 in
set_option maxHeartbeats 4000000 in
theorem person_is {w0 w : World} {a : Option Addr} {len cap bd : Nat} {zs : List Int} (g : Game w0 w bd a len cap) (hr : IsRow .i64 w0 a len cap zs) :
    Calls Tryd.prog 14 #[.pointer (some ⟨bd, 0, none⟩)] w (PersonPost w0 w a len cap bd) := by
  have HR := Lib.hid hr
  have hb0 := g.lt
  have hz := heap_alloc_new w (.cells #[.string ⟨#[]⟩, .int .i64 0, .int .i64 0, .int .i64 0, .int .i64 0] 32)
  have G1 := Lib.hid (g.alloc (.cells #[.string ⟨#[]⟩, .int .i64 0, .int .i64 0, .int .i64 0, .int .i64 0] 32))
  have B1 := Lib.hid (grown_alloc (gb_refl w (some bd)) (.cells #[.string ⟨#[]⟩, .int .i64 0, .int .i64 0, .int .i64 0, .int .i64 0] 32))
  obtain ⟨x, hx⟩ : ∃ x, w.heap.size = x := ⟨_, rfl⟩
  obtain ⟨W1, hW1⟩ : ∃ W, w.alloc (.cells #[.string ⟨#[]⟩, .int .i64 0, .int .i64 0, .int .i64 0, .int .i64 0] 32) = W := ⟨_, rfl⟩
  have hxl : x < W1.heap.size := by rw [← hW1, ← hx]; simp
  rw [hW1] at hz G1 B1
  rw [hx] at hz
  have HZ := Lib.hid hz
  have hxb : x ≠ bd := by omega
  clear hr g hz
  go_enter Tryd.func14, Tryd.ntmps14
  go_wp2_with fail
  refine (G1.out.next HR.out 2000 (by decide)).mono ?_; rintro e V1 ⟨f, rfl, f0, f1, gm, gb⟩
  have G2 := Lib.hid gm
  have B2 := Lib.hid (gb_tr B1.out gb)
  have R2 := Lib.hid gb
  clear gm gb
  rw [show max (2000 : Int) 1 = 2000 from rfl] at f1
  go_wp2_with fail
  refine (G2.out.next HR.out 12 (by decide)).mono ?_; rintro e V2 ⟨kk, rfl, k0, k1, gm, gb⟩
  rw [show max (12 : Int) 1 = 12 from rfl] at k1
  obtain ⟨k, rfl⟩ : ∃ k : Nat, kk = k := ⟨kk.toNat, by omega⟩
  have hk : k < 100 := by omega
  have G3 := Lib.hid gm
  have B3 := Lib.hid (gb_tr B2.out gb)
  have R3 := Lib.hid (gb_tr R2.out gb)
  clear gm gb k0 k1
  go_wp2_with fail
  refine (name_is 80 k V2 hk).mono ?_; rintro e w' ⟨rfl, rfl⟩
  have G4 := Lib.hid (G3.out.alloc (.cells #[.int .u8 (48 + k / 10 : Int), .int .u8 (48 + k % 10 : Int)] 5))
  have B4 := Lib.hid (grown_alloc B3.out (.cells #[.int .u8 (48 + k / 10 : Int), .int .u8 (48 + k % 10 : Int)] 5))
  have R4 := Lib.hid (grown_alloc R3.out (.cells #[.int .u8 (48 + k / 10 : Int), .int .u8 (48 + k % 10 : Int)] 5))
  go_wp2_with fail
  refine (G4.out.next HR.out 3 (by decide)).mono ?_; rintro e V5 ⟨c, rfl, c0, c1, gm, gb⟩
  rw [show max (3 : Int) 1 = 3 from rfl] at c1
  have G5 := Lib.hid gm
  have B5 := Lib.hid (gb_tr B4.out gb)
  have R5 := Lib.hid (gb_tr R4.out gb)
  clear gm gb
  go_wp2_with fail
  refine (G5.out.next HR.out 32 (by decide)).mono ?_; rintro e V6 ⟨s, rfl, s0, s1, gm, gb⟩
  rw [show max (32 : Int) 1 = 32 from rfl] at s1
  have G6 := Lib.hid gm
  have B6 := Lib.hid (gb_tr B5.out gb)
  have R6 := Lib.hid (gb_tr R5.out gb)
  clear gm gb
  have hw1 : IntKind.i64.wrap (f + 1) = f + 1 := by rw [IntKind.wrap_i64]; omega
  go_wp2_with fail
  refine (G6.out.next HR.out 1500 (by decide)).mono ?_; rintro e V7 ⟨u, rfl, u0, u1, gm, gb⟩
  rw [show max (1500 : Int) 1 = 1500 from rfl] at u1
  have G7 := Lib.hid gm
  have B7 := Lib.hid (gb_tr B6.out gb)
  have R7 := Lib.hid (gb_tr R6.out gb)
  clear gm gb
  have hw2 : IntKind.i64.wrap (f + 1 + u) = f + 1 + u := by rw [IntKind.wrap_i64]; omega
  have hz7 : V7.heap[x]? = some (.cells #[.string ⟨#[]⟩, .int .i64 0, .int .i64 0, .int .i64 0, .int .i64 0] 32 (0, 0)) := by rw [R7.out.block x hxl (by simp; exact hxb)]; exact HZ.out
  have OKP := Lib.hid (made_ok hk c0 c1 s0 s1 f0 f1 u0 u1)
  obtain ⟨q0, z0⟩ := cell_at hz7 0
  obtain ⟨q1, z1⟩ := cell_at hz7 1
  obtain ⟨q2, z2⟩ := cell_at hz7 2
  obtain ⟨q3, z3⟩ := cell_at hz7 3
  obtain ⟨q4, z4⟩ := cell_at hz7 4
  have e1 := set_at (i := 0) (.string (nmB 80 k)) hz7
  have e2 := set_at (i := 1) (.int .i64 c) e1
  have e3 := set_at (i := 2) (.int .i64 s) e2
  have e4 := set_at (i := 3) (.int .i64 f) e3
  have e5 := set_at (i := 4) (.int .i64 (f + 1 + u)) e4
  obtain ⟨V8, hV8⟩ : ∃ W, ((((V7.setCell ⟨x, 0, none⟩ (.string (nmB 80 k))).setCell ⟨x, 1, none⟩ (.int .i64 c)).setCell ⟨x, 2, none⟩ (.int .i64 s)).setCell ⟨x, 3, none⟩ (.int .i64 f)).setCell ⟨x, 4, none⟩ (.int .i64 (f + 1 + u)) = W := ⟨_, rfl⟩
  rw [hV8] at e5
  have E5 := Lib.hid e5
  have gs : V7.grownBy V8 (some x) := by
    rw [← hV8]
    exact gb_set _ (gb_set _ (gb_set _ (gb_set _ (gb_set _ (gb_refl V7 (some x))))))
  have G8 := Lib.hid (G7.out.grown gs (by simp; omega) (fun j hj => by cases hj; have := G7.out.mine; omega))
  have B8 : Hid (w.grownBy V8 (some bd)) := B7.out.andThen gs (fun j hj => by cases hj; exact .inl (by omega))
  have p0 := (cell_at e5 0).1
  have p1 := (cell_at e5 1).1
  have p2 := (cell_at e5 2).1
  have p3 := (cell_at e5 3).1
  have p4 := (cell_at e5 4).1
  clear e1 e2 e3 e4 e5 hz7 gs f0 f1 c0 c1 s0 s1 u0 u1
  go_wp2
  first | rw [hV8] | skip
  exact bodyPost_ret (v := pnV ⟨nmB 80 k, c, s, f, f + 1 + u⟩) (by simp [results, Tryd.results14, go_sem, p0, p1, p2, p3, p4, pnV]) rfl ⟨_, rfl, OKP.out, by simp [nmB, ByteArray.size, maxLen], G8.out, B8.out⟩
end Go.Proofs.YtceidbjjciejhaaDoor.reg
