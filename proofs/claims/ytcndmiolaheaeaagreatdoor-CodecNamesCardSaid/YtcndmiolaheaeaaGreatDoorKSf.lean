/- The reader's run: words. -/
import Derived.Test.YtcndmiolaheaeaaGreatDoorKSfa
namespace Go.Proofs.YtcndmiolaheaeaaGreatDoor
open Go.RowKit
set_option linter.unusedSimpArgs false
set_option linter.unusedVariables false

end Go.Proofs.YtcndmiolaheaeaaGreatDoor
