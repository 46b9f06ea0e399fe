/- The model's dual by its contract. -/
import Derived.Test.YtngacjfoldgjpaaGreatDoorGe
import Derived.Test.YtngacjfoldgjpaaGreatDoorGh
namespace Go.Proofs.YtngacjfoldgjpaaGreatDoor
open Go.RowKit

/-- The text of the dual, empty for what is no expression. -/
def dualX (T : ByteArray) : ByteArray := match pT0 T with | none => ⟨#[]⟩ | some x => bx (dual x)
end Go.Proofs.YtngacjfoldgjpaaGreatDoor
