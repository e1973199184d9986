/- A region that draws its order: a head under a condition on the world, then a tail in one order. -/
import Derived.OrdersHeld
import Derived.StillTail
namespace Go.Proofs.YtbnaakognnkhdaaDoor
open Go
section
variable {P : Program} {ops : Array Oper} {Q : Exit → Act → World → Prop} {md : Region.Mode} {S : World → Prop}

end
end Go.Proofs.YtbnaakognnkhdaaDoor
