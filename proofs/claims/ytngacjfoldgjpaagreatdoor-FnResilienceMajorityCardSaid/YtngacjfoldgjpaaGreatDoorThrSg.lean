/- Thresholds over member sets: the model by its contract; the walks of the two laws. -/
import Derived.Test.YtngacjfoldgjpaaGreatDoorThrg
import Derived.Deep.RegionHeld3
namespace Go.Proofs.YtngacjfoldgjpaaGreatDoor
open Go.RowKit

theorem catT {x y : Nat} (h1 : x = 1) (h2 : y ≤ 13) : ¬ 9223372036854775807 < x + 1 ∧ ¬ 9223372036854775807 < x + 1 + (y - 1 - 1) ∧ ¬ 9223372036854775807 < x + 1 + (y - 1 - 1) + 1 := by omega
theorem dig_size (x : Int) : (⟨(dig x).toArray⟩ : ByteArray).size = 1 := rfl
end Go.Proofs.YtngacjfoldgjpaaGreatDoor
