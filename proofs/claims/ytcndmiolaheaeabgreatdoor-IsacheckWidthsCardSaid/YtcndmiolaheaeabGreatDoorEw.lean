/- Four calls on the toy, reckoned. -/
import Derived.Test.YtcndmiolaheaeabGreatDoorEv
namespace Go.Proofs.YtcndmiolaheaeabGreatDoor
open Go.RowKit
set_option maxRecDepth 100000

theorem check_eval : isRes (.tuple #[.int .i64 0, .int .i64 0]) (callF Tryz.prog (runF Tryz.prog (extP toyS toyL) 3000) [] 9 [toyV] toyH) = true := by kernel_rfl
theorem size_eval : isRes (.int .i64 1) (callF Tryz.prog (runF Tryz.prog (extP toyS toyL) 3000) [] 14 [toyV, .int .i64 0] toyH) = true := by kernel_rfl
end Go.Proofs.YtcndmiolaheaeabGreatDoor
