/- The deferred closure in a frame that returns. -/
import Derived.Test.YtonlmennpbklgaaDoorSz
namespace Go.Proofs.YtonlmennpbklgaaDoor
open Go.RowKit
set_option linter.unusedSimpArgs false
set_option linter.unusedVariables false

theorem ta_miss (w : World) : (Instr.typeAssert .nilIface 20 45 true).run Tryd.prog w = .ok (.tuple #[.agg #[.int .i64 0, .int .i64 0], .bool false]) w := by kernel_rfl
set_option maxRecDepth 100000 in
set_option maxHeartbeats 3200000 in
theorem catch_idle : CatchIdle := by
  intro b0 b1 b2 w
  refine callsD_of_wpS Tryd.func14 rfl fun c₀ cs hu => ?_
  apply wpS_seq
  apply wpS_region
  simp [wpOpsS, go_sem, recoverD, hu, Tryd.ntmps14, Exit.thenS, ta_miss]
  apply wpS_seq
  apply wpS_region
  simp [wpOpsS, go_sem, Exit.thenS]
  refine wpS_cond (t := false) (by simp [Act.eval, Array.replicate]) ?_
  simp only [Bool.false_eq_true, if_false]
  refine wpS_of_wp (wp_skip ?_)
  have hf : Fr w (w.alloc (.cells #[.int .i64 0, .int .i64 0] 45)) := (Fr.refl w).alloc _
  cases c₀
  trace_state
  simp_all [bodyPostS, results, Tryd.results14]
end Go.Proofs.YtonlmennpbklgaaDoor
