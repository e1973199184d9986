/- What the reader's tree and trees answer, said by the machine. -/
import Derived.Test.YtcegkagfpjdidaaGreatDoorKSf
import Derived.Test.YtcegkagfpjdidaaGreatDoorKSg
import Derived.Test.YtcegkagfpjdidaaGreatDoorKSh
import Derived.Test.YtcegkagfpjdidaaGreatDoorKSi
import Derived.Test.YtcegkagfpjdidaaGreatDoorKSj
namespace Go.Proofs.YtcegkagfpjdidaaGreatDoor
open Go.RowKit
set_option linter.unusedSimpArgs false
set_option linter.unusedVariables false

/-- Blocks that a call made. -/
def New (w w' : World) (b : Nat) : Prop := w.heap.size ≤ b ∧ b < w'.heap.size
end Go.Proofs.YtcegkagfpjdidaaGreatDoor
