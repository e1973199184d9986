/- The reader's skip. -/
import Derived.Test.YtcndmiolaheaeaaGreatDoorKSk
import Derived.Deep.QuietTactic
import Derived.BigQuiet
import Derived.Deep.LoopGhost
import Derived.Outline
namespace Go.Proofs.YtcndmiolaheaeaaGreatDoor
open Go.RowKit
set_option linter.unusedSimpArgs false
set_option linter.unusedVariables false

theorem tail_of (s : ByteArray) (j : Nat) : (s.extract j s.size).data.toList = s.data.toList.drop j := by
  simp [List.take_of_length_le]
end Go.Proofs.YtcndmiolaheaeaaGreatDoor
