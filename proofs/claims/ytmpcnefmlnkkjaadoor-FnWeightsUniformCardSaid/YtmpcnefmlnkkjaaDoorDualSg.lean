/- The model's dual by its contract. -/
import Derived.Test.YtmpcnefmlnkkjaaDoorGe
import Derived.Test.YtmpcnefmlnkkjaaDoorGh
namespace Go.Proofs.YtmpcnefmlnkkjaaDoor
open Go.RowKit

/-- The text of the dual, empty for what is no expression. -/
def dualX (T : ByteArray) : ByteArray := match pT0 T with | none => ⟨#[]⟩ | some x => bx (dual x)
end Go.Proofs.YtmpcnefmlnkkjaaDoor
