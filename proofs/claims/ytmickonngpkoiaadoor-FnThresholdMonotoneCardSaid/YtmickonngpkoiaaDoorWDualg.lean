/- Duals of texts: the program by its contract, the walk of the exact law. -/
import Derived.Test.YtmickonngpkoiaaDoorDualIg
namespace Go.Proofs.YtmickonngpkoiaaDoor
open Go.RowKit

end Go.Proofs.YtmickonngpkoiaaDoor
