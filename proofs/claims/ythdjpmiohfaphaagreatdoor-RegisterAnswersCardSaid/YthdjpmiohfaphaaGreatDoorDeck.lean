/- The walks of the package that makes values out of a list of numbers: Few, New, Next. What they give: a deck is a block of the call's own; Next gives a number from 0 to n - 1 and writes to that block alone. -/
import Derived.Test.YthdjpmiohfaphaaGreatDoorKit
import Derived.WalkSpells
import Derived.WalkLawsBesides
import Derived.Outline
import Derived.Deep.QuietTactic
import Derived.BigQuiet
import Derived.RegionTactic
import Derived.OpenShut
namespace Go.Proofs.YthdjpmiohfaphaaGreatDoor.deck
open Go.RowKit kit

/-- a deck lies in block b: the list, how far it is read, the state -/
def IsDeck (w : World) (b : Nat) (a : Option Addr) (len cap : Nat) : Prop :=
  ∃ (k : Nat) (s : Int), k ≤ len ∧ 0 ≤ s ∧ s ≤ 18446744073709551615 ∧ w.heap[b]? = some (.cells #[.slice a len cap, .int .i64 k, .int .u64 s] 52 (0, 0))

theorem IsDeck.other {w w' : World} {b : Nat} {a : Option Addr} {len cap : Nat} {row : Option Nat} (h : IsDeck w b a len cap) (hg : w.grownBy w' row) (hne : some b ≠ row) : IsDeck w' b a len cap := by
  obtain ⟨k, s, h1, h2, h3, h4⟩ := h
  exact ⟨k, s, h1, h2, h3, by rw [hg.block b (lt_of_block h4) hne]; exact h4⟩

theorem cells3 {w : World} {b t : Nat} {x y z : Value} (h : w.heap[b]? = some (.cells #[x, y, z] t (0, 0))) :
    w.cell? ⟨b, 0, none⟩ = some x ∧ w.cell? ⟨b, 1, none⟩ = some y ∧ w.cell? ⟨b, 2, none⟩ = some z ∧ w.frozen? ⟨b, 1, none⟩ = false ∧ w.frozen? ⟨b, 2, none⟩ = false := by
  refine ⟨?_, ?_, ?_, ?_, ?_⟩ <;> simp [World.cell?, World.frozen?, h]
theorem set3_1 {w : World} {b t : Nat} {x y z u : Value} (h : w.heap[b]? = some (.cells #[x, y, z] t (0, 0))) : (w.setCell ⟨b, 1, none⟩ u).heap[b]? = some (.cells #[x, u, z] t (0, 0)) := by
  have hlt := lt_of_block h
  have h' : w.heap[b] = .cells #[x, y, z] t (0, 0) := by simpa [Array.getElem?_eq_getElem hlt] using h
  show (w.heap.modify b _)[b]? = _
  rw [Array.getElem?_eq_getElem (by simpa using hlt), Array.getElem_modify_self, h']
  rfl
theorem set3_2 {w : World} {b t : Nat} {x y z u : Value} (h : w.heap[b]? = some (.cells #[x, y, z] t (0, 0))) : (w.setCell ⟨b, 2, none⟩ u).heap[b]? = some (.cells #[x, y, u] t (0, 0)) := by
  have hlt := lt_of_block h
  have h' : w.heap[b] = .cells #[x, y, z] t (0, 0) := by simpa [Array.getElem?_eq_getElem hlt] using h
  show (w.heap.modify b _)[b]? = _
  rw [Array.getElem?_eq_getElem (by simpa using hlt), Array.getElem_modify_self, h']
  rfl

theorem gb_set {w w1 : World} {b i : Nat} (u : Value) (h : w.grownBy w1 (some b)) : w.grownBy (w1.setCell ⟨b, i, none⟩ u) (some b) where
  os := h.os
  tape := h.tape
  output := h.output
  size := by have := h.size; simpa using this
  block := fun k hk hne => by rw [Below.heap_setCell _ _ _ _ (fun e => hne (by rw [e]))]; exact h.block k hk hne
theorem gb_drewN {w w1 : World} {row : Option Nat} (n : Nat) (h : w.grownBy w1 row) : w.grownBy (w1.drewN n) row := ⟨h.os, h.tape, h.output, h.size, h.block⟩
theorem gb_refl (w : World) (row : Option Nat) : w.grownBy w row := ⟨rfl, rfl, rfl, Nat.le_refl _, fun _ _ _ => rfl⟩

/-- what Next leaves: a number below n (0 if n is less than 1), the deck one step on, nothing else written -/
def NextPost (w : World) (b : Nat) (a : Option Addr) (len cap : Nat) (n : Int) (e : Ending) (w' : World) : Prop :=
  ∃ r : Int, e = .returned (.int .i64 r) ∧ 0 ≤ r ∧ r < max n 1 ∧ IsDeck w' b a len cap ∧ w.grownBy w' (some b)

theorem wrap_u64 (x : Int) : 0 ≤ IntKind.u64.wrap x ∧ IntKind.u64.wrap x ≤ 18446744073709551615 := bounds_u64 (wf_wrap .u64 x)
theorem tmod_in {S n : Int} (h0 : 0 ≤ S) (n1 : 1 ≤ n) (n2 : n ≤ 9223372036854775807) : 0 ≤ wrap64 ((S / 8589934592).tmod n) ∧ wrap64 ((S / 8589934592).tmod n) < max n 1 := by
  have e : (S / 8589934592).tmod n = (S / 8589934592) % n := Int.tmod_eq_emod_of_nonneg (by omega)
  have h1 := Int.emod_nonneg (S / 8589934592) (show n ≠ 0 by omega)
  have h2 := Int.emod_lt_of_pos (S / 8589934592) (show 0 < n by omega)
  rw [e, IntWalk.wrap64_in _ ⟨by omega, by omega⟩]; omega

set_option maxRecDepth 100000 in
set_option maxHeartbeats 400000 in
theorem next_in (b bx off len cap k : Nat) (s z n : Int) (w : World) (_hs0 : 0 ≤ s) (_hs1 : s ≤ 18446744073709551615) (hk : k < len) (hl : len ≤ 9223372036854775807) (n1 : 1 ≤ n) (n2 : n ≤ 9223372036854775807)
    (hb : w.heap[b]? = some (.cells #[.slice (some ⟨bx, off, none⟩) len cap, .int .i64 k, .int .u64 s] 52 (0, 0)))
    (hz : w.cell? ⟨bx, off + k, none⟩ = some (.int .i64 z)) :
    Calls Tryz.prog 8 #[.pointer (some ⟨b, 0, none⟩), .int .i64 n] w (NextPost w b (some ⟨bx, off, none⟩) len cap n) := by
  obtain ⟨c0, c1, c2, f1, f2⟩ := cells3 hb
  have HB := Lib.hid hb
  clear hb
  go_enter Tryz.func8, Tryz.ntmps8
  go_wp2
  go_quiet (fail)
  go_wp2
  go_quiet (fail)
  go_wp2
  go_ret
  refine ⟨_, rfl, (tmod_in (wrap_u64 _).1 n1 n2).1, (tmod_in (wrap_u64 _).1 n1 n2).2, ?_, ?_⟩
  · exact ⟨k + 1, _, by omega, (wrap_u64 _).1, (wrap_u64 _).2, set3_2 (set3_1 HB.out)⟩
  · exact gb_set _ (gb_set _ (gb_drewN _ (gb_refl _ _)))

set_option maxRecDepth 100000 in
set_option maxHeartbeats 400000 in
theorem next_in0 (b bx off len cap k : Nat) (s z n : Int) (w : World) (_hs0 : 0 ≤ s) (_hs1 : s ≤ 18446744073709551615) (hk : k < len) (hl : len ≤ 9223372036854775807) (n1 : n < 1)
    (hb : w.heap[b]? = some (.cells #[.slice (some ⟨bx, off, none⟩) len cap, .int .i64 k, .int .u64 s] 52 (0, 0)))
    (hz : w.cell? ⟨bx, off + k, none⟩ = some (.int .i64 z)) :
    Calls Tryz.prog 8 #[.pointer (some ⟨b, 0, none⟩), .int .i64 n] w (NextPost w b (some ⟨bx, off, none⟩) len cap n) := by
  obtain ⟨c0, c1, c2, f1, f2⟩ := cells3 hb
  have HB := Lib.hid hb
  clear hb
  go_enter Tryz.func8, Tryz.ntmps8
  go_wp2
  go_quiet (fail)
  go_wp2
  go_quiet (fail)
  go_wp2
  go_ret
  refine ⟨0, rfl, by omega, by omega, ?_, ?_⟩
  · exact ⟨k + 1, _, by omega, (wrap_u64 _).1, (wrap_u64 _).2, set3_2 (set3_1 HB.out)⟩
  · exact gb_set _ (gb_set _ (gb_drewN _ (gb_refl _ _)))

set_option maxRecDepth 100000 in
set_option maxHeartbeats 400000 in
theorem next_end (b len cap : Nat) (a : Option Addr) (s n : Int) (w : World) (_hs0 : 0 ≤ s) (_hs1 : s ≤ 18446744073709551615) (_hl : len ≤ 9223372036854775807) (n1 : 1 ≤ n) (n2 : n ≤ 9223372036854775807)
    (hb : w.heap[b]? = some (.cells #[.slice a len cap, .int .i64 (len : Int), .int .u64 s] 52 (0, 0))) :
    Calls Tryz.prog 8 #[.pointer (some ⟨b, 0, none⟩), .int .i64 n] w (NextPost w b a len cap n) := by
  obtain ⟨c0, c1, c2, f1, f2⟩ := cells3 hb
  have HB := Lib.hid hb
  clear hb
  go_enter Tryz.func8, Tryz.ntmps8
  go_wp2
  go_quiet (fail)
  go_wp2
  go_ret
  refine ⟨_, rfl, (tmod_in (wrap_u64 _).1 n1 n2).1, (tmod_in (wrap_u64 _).1 n1 n2).2, ?_, ?_⟩
  · exact ⟨len, _, by omega, (wrap_u64 _).1, (wrap_u64 _).2, set3_2 HB.out⟩
  · exact gb_set _ (gb_drewN _ (gb_refl _ _))

set_option maxRecDepth 100000 in
set_option maxHeartbeats 400000 in
theorem next_end0 (b len cap : Nat) (a : Option Addr) (s n : Int) (w : World) (_hs0 : 0 ≤ s) (_hs1 : s ≤ 18446744073709551615) (_hl : len ≤ 9223372036854775807) (n1 : n < 1)
    (hb : w.heap[b]? = some (.cells #[.slice a len cap, .int .i64 (len : Int), .int .u64 s] 52 (0, 0))) :
    Calls Tryz.prog 8 #[.pointer (some ⟨b, 0, none⟩), .int .i64 n] w (NextPost w b a len cap n) := by
  obtain ⟨c0, c1, c2, f1, f2⟩ := cells3 hb
  have HB := Lib.hid hb
  clear hb
  go_enter Tryz.func8, Tryz.ntmps8
  go_wp2
  go_quiet (fail)
  go_wp2
  go_ret
  refine ⟨0, rfl, by omega, by omega, ?_, ?_⟩
  · exact ⟨len, _, by omega, (wrap_u64 _).1, (wrap_u64 _).2, set3_2 HB.out⟩
  · exact gb_set _ (gb_drewN _ (gb_refl _ _))

theorem next_any (b len cap : Nat) (a : Option Addr) (zs : List Int) (n : Int) (w : World) (hd : IsDeck w b a len cap) (hr : IsRow .i64 w a len cap zs) (n2 : n ≤ 9223372036854775807) :
    Calls Tryz.prog 8 #[.pointer (some ⟨b, 0, none⟩), .int .i64 n] w (NextPost w b a len cap n) := by
  obtain ⟨k, s, hk, hs0, hs1, hb⟩ := hd
  have hl : len ≤ 9223372036854775807 := by
    rcases hr with ⟨_, h, _⟩ | ⟨_, _, h1, h2, _⟩
    · omega
    · unfold maxLen at h2; omega
  by_cases hkl : k < len
  · obtain ⟨x, rfl, h1, h2, h3, hc, hw⟩ : ∃ x, a = some x ∧ len ≤ cap ∧ cap ≤ maxLen ∧ zs.length = cap ∧ (∀ i, i < zs.length → w.cell? (x.add i) = some (.int .i64 (zs.getD i 0))) ∧ ∀ n ∈ zs, (Lit.int .i64 n).wf = true := by
      rcases hr with ⟨_, h, _⟩ | h
      · omega
      · exact h
    obtain ⟨bx, off, rfl, hc'⟩ := ints_at hc (by omega)
    by_cases n1 : 1 ≤ n
    · exact next_in b bx off len cap k s _ n w hs0 hs1 hkl hl n1 n2 hb (hc' k (by omega))
    · exact next_in0 b bx off len cap k s _ n w hs0 hs1 hkl hl (by omega) hb (hc' k (by omega))
  · obtain rfl : k = len := by omega
    by_cases n1 : 1 ≤ n
    · exact next_end b k cap a s n w hs0 hs1 hl n1 n2 hb
    · exact next_end0 b k cap a s n w hs0 hs1 hl (by omega) hb

theorem few_any (len cap : Nat) (a : Option Addr) (w : World) (_hl : len ≤ 9223372036854775807) :
    Calls Tryz.prog 4 #[.slice a len cap] w fun e w' => e = .returned (.bool (decide ((len : Int) ≤ 400))) ∧ w = w' := by
  go_enter Tryz.func4, Tryz.ntmps4
  go_wp2
  go_ret
  exact ⟨rfl, rfl⟩

/-- what New leaves: a deck in a new block -/
def NewPost (w : World) (a : Option Addr) (len cap : Nat) (e : Ending) (w' : World) : Prop :=
  e = .returned (.pointer (some ⟨w.heap.size, 0, none⟩)) ∧ IsDeck w' w.heap.size a len cap ∧ w.grownBy w' none ∧ w.heap.size < w'.heap.size

set_option maxRecDepth 100000 in
theorem new_any (len cap : Nat) (a : Option Addr) (w : World) :
    Calls Tryz.prog 6 #[.slice a len cap] w (NewPost w a len cap) := by
  go_enter Tryz.func6, Tryz.ntmps6
  go_wp2
  go_ret
  exact ⟨rfl, ⟨0, 88172645463325252, Nat.zero_le _, by decide, by decide, heap_alloc_new w _⟩, World.grownBy_alloc w _ none, by simp⟩

/-- what holds of the world while values are drawn: below the old heap's end it is as it was, and the deck lies in a block of the call's own -/
structure Game (w wr : World) (b : Nat) (a : Option Addr) (len cap : Nat) : Prop where
  below : Below w.heap.size w wr
  deck : IsDeck wr b a len cap
  mine : w.heap.size ≤ b
theorem Game.lt {w wr : World} {b : Nat} {a : Option Addr} {len cap : Nat} (g : Game w wr b a len cap) : b < wr.heap.size := by
  obtain ⟨k, s, _, _, _, h⟩ := g.deck
  exact lt_of_block h
theorem Game.grown {w wr w' : World} {b : Nat} {a : Option Addr} {len cap : Nat} {row : Option Nat} (g : Game w wr b a len cap) (hg : wr.grownBy w' row) (hne : some b ≠ row) (hr : ∀ k, row = some k → w.heap.size ≤ k) : Game w w' b a len cap :=
  ⟨g.below.grown hg g.below.size hr, g.deck.other hg hne, g.mine⟩
theorem Game.alloc {w wr : World} {b : Nat} {a : Option Addr} {len cap : Nat} (g : Game w wr b a len cap) (o : Obj) : Game w (wr.alloc o) b a len cap :=
  g.grown (World.grownBy_alloc wr o none) (by simp) (fun k hk => by cases hk)
theorem Game.drewN {w wr : World} {b : Nat} {a : Option Addr} {len cap : Nat} (g : Game w wr b a len cap) (n : Nat) : Game w (wr.drewN n) b a len cap :=
  g.grown (gb_drewN n (gb_refl wr none)) (by simp) (fun k hk => by cases hk)
theorem Game.drew {w wr : World} {b : Nat} {a : Option Addr} {len cap : Nat} (g : Game w wr b a len cap) : Game w wr.drew b a len cap :=
  g.grown (row := none) ⟨rfl, rfl, rfl, Nat.le_refl _, fun _ _ _ => rfl⟩ (by simp) (fun k hk => by cases hk)
theorem Game.by_below {w wr w' : World} {b : Nat} {a : Option Addr} {len cap : Nat} (g : Game w wr b a len cap) (hb : Below wr.heap.size wr w') : Game w w' b a len cap :=
  g.grown (row := none) ⟨hb.os, hb.tape, hb.output, hb.size, fun k hk _ => hb.block k hk⟩ (by simp) (fun k hk => by cases hk)
theorem Game.own {w wr w' : World} {b base : Nat} {a : Option Addr} {len cap : Nat} {v : Value} {e : TypeId} {size n : Nat} {xs : List Value} (g : Game w wr b a len cap) (ho : wr.ownsRow base e size v n xs) (hb : b < base) (hg : wr.grownBy w' v.ownBlock) : Game w w' b a len cap :=
  g.grown hg (fun he => by have := (World.ownsRow.lt ho b he.symm).1; omega) (fun k hk => by have := (World.ownsRow.lt ho k hk).1; have := g.mine; omega)
def GamePost (w wr : World) (b : Nat) (a : Option Addr) (len cap : Nat) (n : Int) (e : Ending) (w' : World) : Prop :=
  ∃ r : Int, e = .returned (.int .i64 r) ∧ 0 ≤ r ∧ r < max n 1 ∧ Game w w' b a len cap ∧ wr.grownBy w' (some b)
theorem Game.next {w wr : World} {b len cap : Nat} {a : Option Addr} {zs : List Int} (g : Game w wr b a len cap) (hr : IsRow .i64 w a len cap zs) (n : Int) (n2 : n ≤ 9223372036854775807) :
    Calls Tryz.prog 8 #[.pointer (some ⟨b, 0, none⟩), .int .i64 n] wr (GamePost w wr b a len cap n) :=
  (next_any b len cap a zs n wr g.deck (hr.below g.below) n2).mono fun e w' ⟨r, he, h0, h1, hd, hg⟩ =>
    ⟨r, he, h0, h1, ⟨g.below.grown hg g.below.size (fun k hk => by cases hk; exact g.mine), hd, g.mine⟩, hg⟩
theorem Game.start {w w' : World} {e : Ending} {a : Option Addr} {len cap : Nat} (h : NewPost w a len cap e w') : e = .returned (.pointer (some ⟨w.heap.size, 0, none⟩)) ∧ Game w w' w.heap.size a len cap :=
  ⟨h.1, ⟨(Below.refl _ _).grown h.2.2.1 (Nat.le_refl _) (fun k hk => by cases hk), h.2.1, Nat.le_refl _⟩⟩
theorem newg_any (len cap : Nat) (a : Option Addr) (w : World) :
    Calls Tryz.prog 6 #[.slice a len cap] w fun e w' => e = .returned (.pointer (some ⟨w.heap.size, 0, none⟩)) ∧ Game w w' w.heap.size a len cap :=
  (new_any len cap a w).mono fun _ _ h => Game.start h
end Go.Proofs.YthdjpmiohfaphaaGreatDoor.deck
