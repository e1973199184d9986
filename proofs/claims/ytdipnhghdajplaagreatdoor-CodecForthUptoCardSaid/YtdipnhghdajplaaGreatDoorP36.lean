/- What a law's road comes to: the facts of CodecForth's row, one by one. -/
import Derived.Test.YtdipnhghdajplaaGreatDoorChecked
import Derived.Test.YtdipnhghdajplaaGreatDoorRows
import Derived.JoinedOf
namespace Go.Proofs.YtdipnhghdajplaaGreatDoor
open Go
set_option linter.unusedSimpArgs false
set_option linter.unusedVariables false
theorem cfo_inPlace : (Rows.codecForthUptoRow.inPlace == Tryz.prog.inPlace 5) = true := by kernel_rfl
theorem cfo_unfollowed : (Rows.codecForthUptoRow.unfollowed == Tryz.prog.unfollowed 5) = true := by kernel_rfl
theorem cfo_recurses : (Rows.codecForthUptoRow.recurses == Tryz.prog.recurses 5) = true := by kernel_rfl
theorem cfo_named : (Rows.codecForthUptoRow.named == Tryz.prog.varsNamed 5) = true := by kernel_rfl
end Go.Proofs.YtdipnhghdajplaaGreatDoor
