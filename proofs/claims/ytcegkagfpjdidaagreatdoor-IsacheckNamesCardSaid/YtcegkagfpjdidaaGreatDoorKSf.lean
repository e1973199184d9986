/- The reader's run: words. -/
import Derived.Test.YtcegkagfpjdidaaGreatDoorKSfa
namespace Go.Proofs.YtcegkagfpjdidaaGreatDoor
open Go.RowKit
set_option linter.unusedSimpArgs false
set_option linter.unusedVariables false

end Go.Proofs.YtcegkagfpjdidaaGreatDoor
