/- Two more calls on the toy, reckoned. -/
import Derived.Test.YtcndmiolaheaeabGreatDoorEw
namespace Go.Proofs.YtcndmiolaheaeabGreatDoor
open Go.RowKit
set_option maxRecDepth 100000

theorem apart01_eval : isRes (.bool true) (callF Tryz.prog (runF Tryz.prog (extP toyS toyL) 3000) [] 15 [toyV, .int .i64 0, .int .i64 1] toyH) = true := by kernel_rfl
theorem apart00_eval : isRes (.bool false) (callF Tryz.prog (runF Tryz.prog (extP toyS toyL) 3000) [] 15 [toyV, .int .i64 0, .int .i64 0] toyH) = true := by kernel_rfl
end Go.Proofs.YtcndmiolaheaeabGreatDoor
