/- The walk of the law on FamilyTransversals. -/
import Derived.Test.YtnfaihgnggmpkaaGd
namespace Go.Proofs.Ytnfaihgnggmpkaa
open Go.RowKit

end Go.Proofs.Ytnfaihgnggmpkaa
