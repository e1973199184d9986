/- The reader's tree at a run. -/
import Derived.Test.YtcndmiolaheaeaaGreatDoorKSs
namespace Go.Proofs.YtcndmiolaheaeaaGreatDoor
open Go.RowKit
set_option linter.unusedSimpArgs false
set_option linter.unusedVariables false

end Go.Proofs.YtcndmiolaheaeaaGreatDoor
