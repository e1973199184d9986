/- The reader's run: digits that Atoi refuses. -/
import Derived.Test.YtcndmiolaheaeaaGreatDoorKSga
namespace Go.Proofs.YtcndmiolaheaeaaGreatDoor
open Go.RowKit
set_option linter.unusedSimpArgs false
set_option linter.unusedVariables false

end Go.Proofs.YtcndmiolaheaeaaGreatDoor
