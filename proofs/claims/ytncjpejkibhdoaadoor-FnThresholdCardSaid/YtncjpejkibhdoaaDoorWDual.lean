/- Duals of texts: the program by its contract, the walk of the exact law. -/
import Derived.Test.YtncjpejkibhdoaaDoorDualI
namespace Go.Proofs.YtncjpejkibhdoaaDoor
open Go.RowKit

end Go.Proofs.YtncjpejkibhdoaaDoor
