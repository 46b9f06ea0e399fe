/- What the heading of the program says. -/
import Derived.Test.YtoomaiclbblcdaaRows
import Derived.WalkKit
import Derived.ProofKit
import Derived.OpenShut
namespace Go.Proofs.Ytoomaiclbblcdaa
theorem iniEnter : Try.pinned.checked.prog.mayEnter = true := by kernel_rfl
theorem iniLift : Try.pinned.checked.prog.liftsFinal = false := by kernel_rfl
theorem iniMake : Try.pinned.checked.prog.make = some .cut := by kernel_rfl
end Go.Proofs.Ytoomaiclbblcdaa
