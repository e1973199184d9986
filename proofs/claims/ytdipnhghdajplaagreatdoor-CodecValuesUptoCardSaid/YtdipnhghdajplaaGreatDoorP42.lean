/- What a law's road comes to: the facts of CodecValues' row, one by one. -/
import Derived.Test.YtdipnhghdajplaaGreatDoorChecked
import Derived.Test.YtdipnhghdajplaaGreatDoorRows
import Derived.JoinedOf
namespace Go.Proofs.YtdipnhghdajplaaGreatDoor
open Go
set_option linter.unusedSimpArgs false
set_option linter.unusedVariables false

theorem cv_inPlace : (Rows.codecValuesUptoRow.inPlace == Tryz.prog.inPlace 6) = true := by kernel_rfl
theorem cv_unfollowed : (Rows.codecValuesUptoRow.unfollowed == Tryz.prog.unfollowed 6) = true := by kernel_rfl
theorem cv_recurses : (Rows.codecValuesUptoRow.recurses == Tryz.prog.recurses 6) = true := by kernel_rfl
theorem cv_named : (Rows.codecValuesUptoRow.named == Tryz.prog.varsNamed 6) = true := by kernel_rfl
end Go.Proofs.YtdipnhghdajplaaGreatDoor
