/- Atoi and Itoa, as the reader uses them. -/
import Derived.Test.YtcndmiolaheaeaaGreatDoorKSfa
import Derived.Sort.Grow
namespace Go.Proofs.YtcndmiolaheaeaaGreatDoor
open Go.RowKit
set_option linter.unusedSimpArgs false
set_option linter.unusedVariables false

theorem fr_grow (w : World) (k : Nat) (os : Array Obj) : Fr w (Sort.grow (w.drewN k) os) := by
  refine ⟨rfl, rfl, rfl, ?_, fun i hi => ?_⟩
  · show w.heap.size ≤ (w.heap ++ os).size
    simp
  · show (w.heap ++ os)[i]? = w.heap[i]?
    rw [Array.getElem?_append_left hi]
end Go.Proofs.YtcndmiolaheaeaaGreatDoor
