/- What a law's road comes to: the facts of IsacheckApart's row, one by one. -/
import Derived.Test.YtgldfokjnkmifaaGreatDoorChecked
import Derived.Test.YtgldfokjnkmifaaGreatDoorRows
import Derived.JoinedOf
namespace Go.Proofs.YtgldfokjnkmifaaGreatDoor
open Go
set_option linter.unusedSimpArgs false
set_option linter.unusedVariables false

theorem ia_inPlace : (Rows.isacheckApartUptoRow.inPlace == Tryz.prog.inPlace 3) = true := by kernel_rfl
theorem ia_unfollowed : (Rows.isacheckApartUptoRow.unfollowed == Tryz.prog.unfollowed 3) = true := by kernel_rfl
theorem ia_recurses : (Rows.isacheckApartUptoRow.recurses == Tryz.prog.recurses 3) = true := by kernel_rfl
theorem ia_named : (Rows.isacheckApartUptoRow.named == Tryz.prog.varsNamed 3) = true := by kernel_rfl
end Go.Proofs.YtgldfokjnkmifaaGreatDoor
