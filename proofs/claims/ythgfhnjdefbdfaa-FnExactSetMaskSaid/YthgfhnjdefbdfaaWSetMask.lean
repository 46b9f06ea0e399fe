/- The walk of the law on SetMask. -/
import Derived.Test.YthgfhnjdefbdfaaSpecM
import Derived.Test.YthgfhnjdefbdfaaImpl
import Derived.Test.YthgfhnjdefbdfaaOwn
namespace Go.Proofs.Ythgfhnjdefbdfaa
open Go.RowKit

set_option maxHeartbeats 1600000 in
theorem walkSetMask (A : Option Addr) (c : Nat) (l : List Int) (w : World) (ha : IL w A l) (hm : l.length ≤ maxLen) :
    Calls Try.prog 9 #[.slice A l.length c] w fun e w' => e = .returned (.bool true) ∧ Below w.heap.size w w' := by
  unfold maxLen at hm
  by_cases hl : l.length ≤ 1048576
  · go_enter Try.func9, Try.ntmps9
    go_wp2_with fail
    refine (toIntS_any _ _ _ _ ha hl).mono ?_
    rintro e w1 ⟨g1, rfl, o1, b1⟩
    go_wp2_with fail
    refine (specMask_any _ _ _ _ (IL.of_own o1).1 hl).mono ?_
    rintro e w2 ⟨rfl, b2⟩
    have b2' := below_step b1 b2
    clear o1 b1 b2
    go_wp2_with fail
    refine (toIntS_any _ _ _ _ (ha.below b2') hl).mono ?_
    rintro e w3 ⟨g3, rfl, o3, b3⟩
    have b3' := below_step b2' b3
    clear b3
    go_wp2_with fail
    refine (implMask_any _ _ _ _ (IL.of_own o3).1 hl).mono ?_
    rintro e w' ⟨rfl, rfl⟩
    go_wp2_with fail
    refine (toIntS_any _ _ _ _ (ha.below b3') hl).mono ?_
    rintro e w4 ⟨g4, rfl, o4, b4⟩
    go_wp2_with fail
    refine (eqIntS_yes _ _ _ _ _ _ ((IL.of_own o3).1.below b4) (IL.of_own o4).1 hl).mono ?_
    rintro e w5 ⟨rfl, b5⟩
    have b5' := below_step (below_step b3' b4) b5
    clear o3 o4 b4 b5
    go_wp2
    go_ret
    exact ⟨rfl, b5'⟩
  · go_enter Try.func9, Try.ntmps9
    go_wp2
    go_ret
    exact ⟨rfl, Below.refl _ _⟩
end Go.Proofs.Ythgfhnjdefbdfaa
