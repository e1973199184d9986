/- Names, as the document has them: letters, digits. -/
import Derived.Test.YtbnaakognnkhdaaDoorRowd
import Derived.Test.YtbnaakognnkhdaaDoorChecked
namespace Go.Proofs.YtbnaakognnkhdaaDoor
open Go.RowKit
set_option linter.unusedSimpArgs false
set_option linter.unusedVariables false

def letI' (m : Int) : Bool := decide ((65 ≤ m ∧ m ≤ 90) ∨ (97 ≤ m ∧ m ≤ 122) ∨ m = 95 ∨ m = 46 ∨ m = 36)
def digI (m : Int) : Bool := decide (48 ≤ m ∧ m ≤ 57)
def letB (c : UInt8) : Bool := letI' (c.toNat : Int)
def digB (c : UInt8) : Bool := digI (c.toNat : Int)
/-- Is it a name? -/
def nameL : List UInt8 → Bool
  | [] => false
  | c :: r => letB c && r.all fun d => letB d || digB d
def nameB (s : ByteArray) : Bool := nameL s.data.toList
theorem drop_at (s : ByteArray) (k : Nat) (h : k < s.size) : s.data.toList.drop k = s[k] :: s.data.toList.drop (k + 1) := by
  have h2 : k < s.data.toList.length := by simpa using h
  rw [List.drop_eq_getElem_cons h2]; rfl
theorem drop_all (s : ByteArray) : s.data.toList.drop s.size = [] := by simp
theorem toList_nil {s : ByteArray} (h : s.size = 0) : s.toList = [] := by
  rw [ByteArray.toList_eq]
  exact List.eq_nil_of_length_eq_zero (by simpa using h)
theorem toList_ne {s : ByteArray} (h : 0 < s.size) : s.toList ≠ [] := by
  rw [ByteArray.toList_eq]
  intro e
  have h2 := congrArg List.length e
  have h3 : s.data.toList.length = s.size := by simp
  rw [List.length_nil] at h2; omega
end Go.Proofs.YtbnaakognnkhdaaDoor
