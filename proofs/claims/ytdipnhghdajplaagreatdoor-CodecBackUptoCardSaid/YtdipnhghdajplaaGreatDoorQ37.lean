/- What a law's road comes to: the facts of CodecBack's row, one by one. -/
import Derived.Test.YtdipnhghdajplaaGreatDoorChecked
import Derived.Test.YtdipnhghdajplaaGreatDoorRows
import Derived.JoinedOf
namespace Go.Proofs.YtdipnhghdajplaaGreatDoor
open Go
set_option linter.unusedSimpArgs false
set_option linter.unusedVariables false
theorem cbk_inPlace : (Rows.codecBackUptoRow.inPlace == Tryz.prog.inPlace 4) = true := by kernel_rfl
theorem cbk_unfollowed : (Rows.codecBackUptoRow.unfollowed == Tryz.prog.unfollowed 4) = true := by kernel_rfl
theorem cbk_recurses : (Rows.codecBackUptoRow.recurses == Tryz.prog.recurses 4) = true := by kernel_rfl
theorem cbk_named : (Rows.codecBackUptoRow.named == Tryz.prog.varsNamed 4) = true := by kernel_rfl
end Go.Proofs.YtdipnhghdajplaaGreatDoor
