/- MemNames answers true. -/
import Derived.Test.YtelfokoibmpdlaaMn
import Derived.Deep.QuietTactic
import Derived.Lib.Hide
namespace Go.Proofs.Ytelfokoibmpdlaa
open Go.RowKit
set_option linter.unusedSimpArgs false
set_option linter.unusedVariables false
set_option maxHeartbeats 3200000 in
theorem names7 (w : World) : Calls Try.prog 3 #[] w fun e w' => e = .returned (.bool true) ∧ Fr w w' := by
  go_enter Try.func3, Try.ntmps3
  go_wp2_with (go_at_call 7; refine (alive7 w).mono ?_; rintro e w1 ⟨rfl, hf⟩; have HF := Lib.hid hf; clear hf)
  go_ret
  exact ⟨ret_bool (by simp), HF.out⟩
end Go.Proofs.Ytelfokoibmpdlaa
