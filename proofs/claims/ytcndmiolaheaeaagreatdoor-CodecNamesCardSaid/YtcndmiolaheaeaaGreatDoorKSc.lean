/- How long a run is; whether all bytes are a text's. -/
import Derived.Test.YtcndmiolaheaeaaGreatDoorKSb
namespace Go.Proofs.YtcndmiolaheaeaaGreatDoor
open Go.RowKit
set_option linter.unusedSimpArgs false
set_option linter.unusedVariables false

theorem drop_at (s : ByteArray) (k : Nat) (h : k < s.size) : s.data.toList.drop k = s[k] :: s.data.toList.drop (k + 1) := by
  have h2 : k < s.data.toList.length := by simpa using h
  rw [List.drop_eq_getElem_cons h2]; rfl
theorem drop_all (s : ByteArray) : s.data.toList.drop s.size = [] := by simp
def RelR (s : ByteArray) (i : Value) : Prop := ∃ k : Nat, k ≤ s.size ∧ i = .int .i64 (k : Int) ∧ ruN s.data.toList = k + ruN (s.data.toList.drop k)
end Go.Proofs.YtcndmiolaheaeaaGreatDoor
