/- The sets that satisfy an expression, no program. -/
import Derived.Test.YtgbijndfpbcjeaaVal
import Derived.Test.YtgbijndfpbcjeaaSem4
import Derived.Test.YtgbijndfpbcjeaaFam2
namespace Go.Proofs.Ytgbijndfpbcjeaa
def satF (x : Ex) (s : Nat) : Bool := sat s x
def satL' (x : Ex) : List Nat := (List.range 64).filter (satF x)
def expM (T : ByteArray) : List Nat := match pT0 T with | none => [] | some x => satL' x
theorem satL'_msk (x : Ex) : Msk (satL' x) := fun _ hq => List.mem_range.1 (List.mem_filter.1 hq).1
theorem mem_satL' {x : Ex} {s : Nat} : s ∈ satL' x ↔ s < 64 ∧ sat s x = true := by simp [satL', satF]
end Go.Proofs.Ytgbijndfpbcjeaa
