/- The reader's run: digits that no number writes. -/
import Derived.Test.YtcegkagfpjdidaaGreatDoorKSga
namespace Go.Proofs.YtcegkagfpjdidaaGreatDoor
open Go.RowKit
set_option linter.unusedSimpArgs false
set_option linter.unusedVariables false

end Go.Proofs.YtcegkagfpjdidaaGreatDoor
