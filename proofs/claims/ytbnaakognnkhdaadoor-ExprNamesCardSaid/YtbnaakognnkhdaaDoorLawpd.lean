/- A law's last step: it answered true and left old memory alone; so what it was given reads as before. -/
import Derived.Test.YtbnaakognnkhdaaDoorRows
import Derived.Test.YtbnaakognnkhdaaDoorFrd
import Derived.Lib.SmallJoins
import Derived.ProofKit
import Derived.Carry
namespace Go.Proofs.YtbnaakognnkhdaaDoor
open Go.ChangeShapes Go.WideShapes Go.ChangeAt Go.RowKit Go.Joins

theorem Tryd.own : ownKnob Tryd.prog.godebug = none := by kernel_rfl
theorem int_of_wf {n : Int} (h : (Lit.int .i64 n).wf = true) : -9223372036854775808 ≤ n ∧ n ≤ 9223372036854775807 := by
  simp [Lit.wf, IntKind.min, IntKind.max, IntKind.signed, IntKind.bits] at h
  exact ⟨by omega, by omega⟩
end Go.Proofs.YtbnaakognnkhdaaDoor
