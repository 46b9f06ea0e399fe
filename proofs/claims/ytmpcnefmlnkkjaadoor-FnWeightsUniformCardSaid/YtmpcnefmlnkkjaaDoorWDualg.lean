/- Duals of texts: the program by its contract, the walk of the exact law. -/
import Derived.Test.YtmpcnefmlnkkjaaDoorDualIg
namespace Go.Proofs.YtmpcnefmlnkkjaaDoor
open Go.RowKit

end Go.Proofs.YtmpcnefmlnkkjaaDoor
