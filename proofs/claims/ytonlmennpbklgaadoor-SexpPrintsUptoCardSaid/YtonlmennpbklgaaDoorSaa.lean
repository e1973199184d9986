/- What Parse answers, at every text. -/
import Derived.Test.YtonlmennpbklgaaDoorSy
import Derived.Test.YtonlmennpbklgaaDoorSya
namespace Go.Proofs.YtonlmennpbklgaaDoor
open Go.RowKit
set_option linter.unusedSimpArgs false
set_option linter.unusedVariables false

theorem parse_ps (s : ByteArray) (w : World) (hs : s.size ≤ 262144) (hw5 : 5 < w.heap.size) (hla : Laid w) :
    Calls Tryd.prog 8 #[.string s] w fun e w' => PsPost s w e w' := parse_any catch_pan catch_idle s w hs hw5 hla
end Go.Proofs.YtonlmennpbklgaaDoor
