/- Duals of texts: the program by its contract, the walk of the exact law. -/
import Derived.Test.YtngacjfoldgjpaaGreatDoorDualIg
namespace Go.Proofs.YtngacjfoldgjpaaGreatDoor
open Go.RowKit

end Go.Proofs.YtngacjfoldgjpaaGreatDoor
