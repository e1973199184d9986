/- The reader's run: numbers. -/
import Derived.Test.YtcegkagfpjdidaaGreatDoorKSga
namespace Go.Proofs.YtcegkagfpjdidaaGreatDoor
open Go.RowKit
set_option linter.unusedSimpArgs false
set_option linter.unusedVariables false

end Go.Proofs.YtcegkagfpjdidaaGreatDoor
