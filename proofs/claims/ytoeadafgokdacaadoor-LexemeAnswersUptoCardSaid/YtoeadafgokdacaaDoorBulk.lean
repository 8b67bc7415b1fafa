/- What the bound of the second form says of strings that came in. No walk in this text. -/
import Derived.Test.YtoeadafgokdacaaDoorRows
import Derived.Test.YtoeadafgokdacaaDoorKit
namespace Go.Proofs.YtoeadafgokdacaaDoor.kit

theorem bulk_one {H : Type} (d : DataW H) : 1 ≤ Rows.uptoBulk d := by
  cases d with
  | lit l => cases l <;> simp [Rows.uptoBulk]
  | nil => simp [Rows.uptoBulk]
  | ptr d => simp [Rows.uptoBulk]
  | slice elems spare => simp [Rows.uptoBulk]
  | agg parts => simp [Rows.uptoBulk]
  | iface t d => simp [Rows.uptoBulk]
  | map entries => simp [Rows.uptoBulk]
  | held h => simp [Rows.uptoBulk]
theorem bulk_part {H : Type} {d : DataW H} {l : List (DataW H)} (h : d ∈ l) : Rows.uptoBulk d ≤ Rows.uptoBulkAll l := by
  induction l with
  | nil => cases h
  | cons x r ih =>
    simp only [Rows.uptoBulkAll]
    rcases List.mem_cons.1 h with e | e
    · subst e; omega
    · have := ih e; omega
/-- the bytes of the strings, each string one more -/
def bytesOf (ss : List ByteArray) : Nat := (ss.map fun s => s.size + 1).sum
theorem bulk_strs {H : Type} (ss : List ByteArray) : Rows.uptoBulkAll (strData (H := H) ss) = bytesOf ss := by
  induction ss with
  | nil => simp [strData, bytesOf, Rows.uptoBulkAll]
  | cons s r ih =>
    have e : strData (H := H) (s :: r) = .lit (.string s.data.toList) :: strData r := rfl
    rw [e, Rows.uptoBulkAll, ih]
    simp [Rows.uptoBulk, bytesOf]
theorem bulk_bound {H : Type} {l : List (DataW H)} (hk : Rows.uptoSmall H l = true) : Rows.uptoBulkAll l ≤ 1048576 := of_decide_eq_true hk
/-- of a slice of strings that came in -/
theorem strs_small {H : Type} {l : List (DataW H)} (hk : Rows.uptoSmall H l = true) {d : DataW H} (hd : d ∈ l) {ss : List ByteArray} {len : Nat} (h : (d = .nil ∧ ss = []) ∨ ∃ sp, d = .slice (strData (ss.take len)) sp) : bytesOf (ss.take len) ≤ 1048576 := by
  rcases h with ⟨_, rfl⟩ | ⟨sp, rfl⟩
  · simp [bytesOf]
  · have h1 := bulk_bound hk
    have h2 := bulk_part hd
    simp only [Rows.uptoBulk, bulk_strs] at h2
    omega
end Go.Proofs.YtoeadafgokdacaaDoor.kit
