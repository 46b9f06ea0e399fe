/- The reference model's set functions by their contracts. -/
import Derived.Test.YtgbijndfpbcjeaaSpecU
namespace Go.Proofs.Ytgbijndfpbcjeaa
open Go.RowKit

/-- The empty row that was made first stays. -/
theorem made_kept {w w' : World} (hw : Below (w.alloc (.cells #[] 3)).heap.size (w.alloc (.cells #[] 3)) w') :
    w'.ownsRow w.heap.size 3 1 (.slice (some ⟨w.heap.size, 0, none⟩) 0 0) 0 [] ∧ Below w.heap.size w w' := by
  have o0 : (w.alloc (.cells #[] 3)).ownsRow w.heap.size 3 1 (.slice (some ⟨w.heap.size, 0, none⟩) 0 0) 0 [] := World.ownsRow_made w #[] 0 (Nat.le_refl _) (Nat.zero_le _) rfl
  exact ⟨o0.kept (row := none) ⟨hw.os, hw.tape, hw.output, hw.size, fun i hi _ => hw.block i hi⟩ (.inr (by simp [Value.ownBlock])), below_step ((Below.refl _ _).alloc (Nat.le_refl _) _) hw⟩
/-- Not in b. -/
def notIn (b : List Int) (x : Int) : Bool := !has b x

end Go.Proofs.Ytgbijndfpbcjeaa
