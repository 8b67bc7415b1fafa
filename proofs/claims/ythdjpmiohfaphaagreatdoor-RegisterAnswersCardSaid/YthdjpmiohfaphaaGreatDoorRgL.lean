/- The letters of skills, one after the other. No walk in this text. -/
import Derived.Test.YthdjpmiohfaphaaGreatDoorRgA
namespace Go.Proofs.YthdjpmiohfaphaaGreatDoor.reg
open Go.RowKit lex aggs kit net strs

def chr (i : Nat) : UInt8 := ([115, 101, 105, 104, 116] : List UInt8).getD i 0
def pre (k : Nat) : Nat → List UInt8
  | 0 => []
  | i + 1 => pre k i ++ bit k i (chr i)
theorem pre_lets (k : Nat) : pre k 5 = lets k := by simp [pre, lets, chr, bit]
theorem pre_len (k i : Nat) : (pre k i).length ≤ i := by
  induction i with
  | zero => exact Nat.le_refl _
  | succ i ih =>
    show (pre k i ++ bit k i (chr i)).length ≤ _
    rw [List.length_append]
    have : (bit k i (chr i)).length ≤ 1 := by unfold bit; split <;> simp
    omega
set_option maxRecDepth 100000 in
theorem bit_is : ∀ k : Nat, k < 32 → ∀ i, i < 5 → (bits BinOp.and IntKind.i64 ((k : Int) / 2 ^ i) 1 == 1) = decide (k / 2 ^ i % 2 = 1) := by decide
theorem seiht_is (i : Nat) (hi : i < 5) : (⟨#[115, 101, 105, 104, 116]⟩ : ByteArray).extract i (i + 1) = bs [chr i] := by
  rcases (show i = 0 ∨ i = 1 ∨ i = 2 ∨ i = 3 ∨ i = 4 by omega) with rfl | rfl | rfl | rfl | rfl <;> rfl
end Go.Proofs.YthdjpmiohfaphaaGreatDoor.reg
