/- What the reader's tree and trees answer, said by the machine. -/
import Derived.Test.YtcndmiolaheaeaaGreatDoorKSf
import Derived.Test.YtcndmiolaheaeaaGreatDoorKSg
import Derived.Test.YtcndmiolaheaeaaGreatDoorKSh
import Derived.Test.YtcndmiolaheaeaaGreatDoorKSi
import Derived.Test.YtcndmiolaheaeaaGreatDoorKSj
namespace Go.Proofs.YtcndmiolaheaeaaGreatDoor
open Go.RowKit
set_option linter.unusedSimpArgs false
set_option linter.unusedVariables false

/-- Blocks that a call made. -/
def New (w w' : World) (b : Nat) : Prop := w.heap.size ≤ b ∧ b < w'.heap.size
end Go.Proofs.YtcndmiolaheaeaaGreatDoor
