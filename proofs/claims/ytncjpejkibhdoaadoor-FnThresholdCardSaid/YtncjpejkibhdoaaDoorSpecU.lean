/- The reference model's unions by their contracts. -/
import Derived.Test.YtncjpejkibhdoaaDoorSpec
namespace Go.Proofs.YtncjpejkibhdoaaDoor
open Go.RowKit

def inEither (a b : List Int) (x : Int) : Bool := has a x || has b x
theorem union_upTo (a b : List Int) : upTo (inEither a b) 7 = union a b := rfl

end Go.Proofs.YtncjpejkibhdoaaDoor
