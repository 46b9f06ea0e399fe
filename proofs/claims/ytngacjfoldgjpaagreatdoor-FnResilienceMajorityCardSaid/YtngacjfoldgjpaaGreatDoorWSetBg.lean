/- A set derived from a larger number. -/
import Derived.Test.YtngacjfoldgjpaaGreatDoorWLawsg
namespace Go.Proofs.YtngacjfoldgjpaaGreatDoor
open Go.RowKit

end Go.Proofs.YtngacjfoldgjpaaGreatDoor
