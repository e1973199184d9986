/- The statements' own look at the chapter's examples. -/
import Derived.Test.YtonlmennpbklgaaDoorSaa
import Derived.KernelRfl
namespace Go.Proofs.YtonlmennpbklgaaDoor
open Go.RowKit
set_option linter.unusedSimpArgs false
set_option linter.unusedVariables false

def exA : ByteArray := ⟨#[40, 97, 32, 34, 98, 32, 99, 34, 32, 45, 55, 41, 32, 59, 32, 120]⟩
def exB : ByteArray := ⟨#[40, 97]⟩
theorem exA_run : run exA.data.toList 0 [[]] 0 = .ok [.node 4 ⟨#[]⟩ 0 [.node 1 ⟨#[97]⟩ 0 [], .node 3 ⟨#[98, 32, 99]⟩ 0 [], .node 2 ⟨#[]⟩ (-7) []]] := by rfl
theorem exB_run : run exB.data.toList 0 [[]] 0 = .err 2 31 := by rfl
end Go.Proofs.YtonlmennpbklgaaDoor
