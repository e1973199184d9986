/- What a law's road comes to: the facts of TermNames' row, one by one. -/
import Derived.Test.YtigbldheclnmeaaGreatDoorChecked
import Derived.Test.YtigbldheclnmeaaGreatDoorRows
import Derived.JoinedOf
namespace Go.Proofs.YtigbldheclnmeaaGreatDoor
open Go
set_option linter.unusedSimpArgs false
set_option linter.unusedVariables false

theorem tn_inPlace : (Rows.termNamesRow.inPlace == Tryz.prog.inPlace 5) = true := by kernel_rfl
theorem tn_unfollowed : (Rows.termNamesRow.unfollowed == Tryz.prog.unfollowed 5) = true := by kernel_rfl
theorem tn_recurses : (Rows.termNamesRow.recurses == Tryz.prog.recurses 5) = true := by kernel_rfl
theorem tn_named : (Rows.termNamesRow.named == Tryz.prog.varsNamed 5) = true := by kernel_rfl
end Go.Proofs.YtigbldheclnmeaaGreatDoor
