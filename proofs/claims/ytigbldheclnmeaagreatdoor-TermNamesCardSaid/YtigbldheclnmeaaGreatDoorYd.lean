/- The set-up of every law of layer 8 answers true, in whatever world. -/
import Derived.Test.YtigbldheclnmeaaGreatDoorYc
import Derived.Deep.QuietTactic
import Derived.Lib.Hide
namespace Go.Proofs.YtigbldheclnmeaaGreatDoor
open Go.RowKit
set_option linter.unusedSimpArgs false
set_option linter.unusedVariables false

set_option maxRecDepth 100000 in
theorem alive_eval : isRes (.bool true) (callF Tryz.prog (runF Tryz.prog (extC (extP toyS toyL) 3000) 3000) [] 14 [] ⟨0, []⟩) = true := by kernel_rfl
theorem alive8 (w : World) : Calls Tryz.prog 14 #[] w fun e w' => e = .returned (.bool true) ∧ Fr w w' :=
  closed_calls Tryz.mixed (extC_ok Tryz.mixed toy_ext 3000) alive_eval rfl rfl w
set_option maxHeartbeats 3200000 in
theorem names8 (w : World) : Calls Tryz.prog 5 #[] w fun e w' => e = .returned (.bool true) ∧ Fr w w' := by
  go_enter Tryz.func5, Tryz.ntmps5
  go_wp2_with (go_at_call 14; refine (alive8 w).mono ?_; rintro e w1 ⟨rfl, hf⟩; have HF := Lib.hid hf; clear hf)
  go_ret
  exact ⟨ret_bool (by simp), HF.out⟩
end Go.Proofs.YtigbldheclnmeaaGreatDoor
