/- Depth, members and satisfaction of texts: program and model by their contracts; the walks of the exact laws. -/
import Derived.Test.YtgbijndfpbcjeaaSpecY
import Derived.Test.YtgbijndfpbcjeaaSatI
import Derived.Test.YtgbijndfpbcjeaaSpecV
import Derived.Test.YtgbijndfpbcjeaaOwn
namespace Go.Proofs.Ytgbijndfpbcjeaa
open Go.RowKit

def depR (T : ByteArray) : Int := match pT0 T with | none => -1 | some x => (dep x : Int)
def memX (T : ByteArray) : List Int := match pT0 T with | none => [] | some x => mem (ms x)
def satX (T : ByteArray) (l : List Int) : Bool := match pT0 T with | none => false | some x => vld l && sat (msk l) x
theorem memX_len (T : ByteArray) : (memX T).length ≤ 6 := by unfold memX; split; simp; exact mem_len _
theorem spec_no (T : ByteArray) (w : World) (hT : T.size ≤ 1048576) (h : pT0 T = none) : Calls Try.prog 61 #[.string T] w fun e w' => e = .returned (.bool false) ∧ w = w' := by
  have := specValidX T w hT
  rwa [show okX T = false by simp [okX, h]] at this
theorem spec_yes (T : ByteArray) (w : World) (hT : T.size ≤ 1048576) {x : Ex} (h : pT0 T = some x) : Calls Try.prog 61 #[.string T] w fun e w' => e = .returned (.bool true) ∧ w = w' := by
  have := specValidX T w hT
  rwa [show okX T = true by simp [okX, h]] at this

end Go.Proofs.Ytgbijndfpbcjeaa
