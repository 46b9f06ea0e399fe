/- Acceptors: the whole of AcceptorPrepare and AcceptorAccept, the program's and the model's, by their contracts. -/
import Derived.Test.YtfagjbbljdgefaaAcpU
namespace Go.Proofs.Ytfagjbbljdgefaa
open Go.RowKit

end Go.Proofs.Ytfagjbbljdgefaa
