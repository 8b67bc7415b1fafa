/- The walk of awake. Condition: the table 'classes' holds what its text lays. -/
import Derived.Test.YtdgllaiejhnjmaaDoorMdK
namespace Go.Proofs.YtdgllaiejhnjmaaDoor.mod
open Go.RowKit lex net aggs kit strs deck

theorem wake1 : parseR (⟨#[108, 105, 110, 101, 32, 76, 49, 32, 65, 32, 66, 32, 99, 111, 109, 112, 97, 110, 121, 32, 48, 10]⟩ : ByteArray).data.toList = (([], []), 1, 3) := by kernel_rfl
theorem wake2 : parseR (⟨#[110, 111, 100, 101, 32, 65, 32, 99, 117, 115, 116, 111, 109, 101, 114, 115, 32, 50, 32, 99, 111, 109, 112, 97, 110, 121, 32, 48, 10, 105, 110, 102, 101, 101, 100, 32, 83, 32, 65, 32, 99, 111, 109, 112, 97, 110, 121, 32, 49, 10]⟩ : ByteArray).data.toList = (([⟨⟨#[65]⟩, 2, 0⟩], [⟨⟨#[83]⟩, 5, 0, -1, 1⟩]), 0, 0) := by kernel_rfl
set_option maxRecDepth 100000 in
set_option maxHeartbeats 2000000 in
theorem awake_is (w : World) (H : HasClasses w) :
    Calls Tryd.prog 9 #[] w fun e w' => e = .returned (.bool true) ∧ Below w.heap.size w w' := by
  have HH := Lib.hid (fun W (b : Below w.heap.size w W) => H.below b)
  have P1 := Lib.hid (parse_is ⟨#[108, 105, 110, 101, 32, 76, 49, 32, 65, 32, 66, 32, 99, 111, 109, 112, 97, 110, 121, 32, 48, 10]⟩ w H (by decide))
  have P2 := Lib.hid (fun W (b : Below w.heap.size w W) => parse_is ⟨#[110, 111, 100, 101, 32, 65, 32, 99, 117, 115, 116, 111, 109, 101, 114, 115, 32, 50, 32, 99, 111, 109, 112, 97, 110, 121, 32, 48, 10, 105, 110, 102, 101, 101, 100, 32, 83, 32, 65, 32, 99, 111, 109, 112, 97, 110, 121, 32, 49, 10]⟩ W (HH.out W b) (by decide))
  clear H
  go_enter Tryd.func9, Tryd.ntmps9
  go_wp2_with fail
  refine P1.out.mono ?_; rintro e w1 ⟨a, N, c, b, M, d, rfl, -, b1⟩
  rw [wake1]
  have B1 := Lib.hid (b1.alloc b1.size (.cells #[.slice a N c, .slice b M d] 26))
  clear b1
  go_wp2_with fail
  refine (P2.out _ B1.out).mono ?_; rintro e w2 ⟨a2, N2, c2, b2, M2, d2, rfl, hn, bw2⟩
  rw [wake2] at hn ⊢
  have hN := hn.nlen
  have hM := hn.dlen
  have e1 : N2 = 1 := hN.symm
  have e2 : M2 = 1 := hM.symm
  subst e1 e2
  obtain ⟨g, o, rfl, hg, hcn⟩ := hn.nin.some (by decide)
  obtain ⟨g', o', rfl, hg', hcd⟩ := hn.din.some (by decide)
  have bx := below_box w2 (.cells #[.slice (some ⟨g, o, none⟩) 1 c2, .slice (some ⟨g', o', none⟩) 1 d2] 26)
  obtain ⟨-, c1, -⟩ := cells_nd (hcn.below bx) 0 (by decide)
  obtain ⟨-, -, -, d3, -⟩ := cells_dv (hcd.below bx) 0 (by decide)
  have c1' : (w2.alloc (.cells #[.slice (some ⟨g, o, none⟩) 1 c2, .slice (some ⟨g', o', none⟩) 1 d2] 26)).cell? ⟨g, o + 1, none⟩ = some (.int .i64 2) := by simpa using c1
  have d3' : (w2.alloc (.cells #[.slice (some ⟨g, o, none⟩) 1 c2, .slice (some ⟨g', o', none⟩) 1 d2] 26)).cell? ⟨g', o' + 3, none⟩ = some (.int .i64 (-1)) := by simpa using d3
  have BF := Lib.hid (B1.out.trans ((bw2.trans (bx.mono bw2.size)).mono B1.out.size))
  clear hn hN hM hcn hcd bx c1 d3 bw2 hg hg'
  go_wp2
  go_ret
  exact ⟨rfl, BF.out⟩
end Go.Proofs.YtdgllaiejhnjmaaDoor.mod
