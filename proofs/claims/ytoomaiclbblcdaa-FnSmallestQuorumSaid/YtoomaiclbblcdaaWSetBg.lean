/- A set derived from a larger number. -/
import Derived.Test.YtoomaiclbblcdaaWLawsg
namespace Go.Proofs.Ytoomaiclbblcdaa
open Go.RowKit

set_option maxRecDepth 100000 in
set_option maxHeartbeats 400000 in
theorem setB_any (n : Nat) (w : World) (hn : n ≤ 2000000) : Calls Try.prog 47 #[.int .i64 n] w (New w (mem (nmk n))) := by
  have e1 : (n : Int) * 37 % 64 = ((nmk n : Nat) : Int) := by unfold nmk; omega
  have e2 : Int.tmod ((n : Int) * 37) 64 = ((nmk n : Nat) : Int) := by rw [Int.tmod_eq_emod_of_nonneg (by omega)]; exact e1
  have e3 : memR ((nmk n : Nat) : Int) = mem (nmk n) := by
    have := nmk_lt n
    unfold memR
    rw [if_pos (by omega)]
    rfl
  go_enter Try.func47, Try.ntmps47
  go_wp2_with fail
  refine (implOfMask_any ((nmk n : Nat) : Int) _).mono ?_
  rw [e3]
  rintro e w1 ⟨A, c, rfl, o, b⟩
  have D := Lib.hid (show New w (mem (nmk n)) (.returned (.slice A (mem (nmk n)).length c)) w1 from ⟨A, c, rfl, o, b⟩)
  clear o b e1 e2 e3
  go_wp2
  go_ret
  exact D.out

end Go.Proofs.Ytoomaiclbblcdaa
