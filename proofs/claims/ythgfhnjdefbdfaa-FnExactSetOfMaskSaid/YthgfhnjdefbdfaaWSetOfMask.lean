/- The walk of the law on SetOfMask. -/
import Derived.Test.YthgfhnjdefbdfaaOfMask
import Derived.Test.YthgfhnjdefbdfaaOwn
namespace Go.Proofs.Ythgfhnjdefbdfaa
open Go.RowKit

set_option maxHeartbeats 1600000 in
theorem walkSetOfMask (m : Int) (w : World) :
    Calls Try.prog 10 #[.int .i64 m] w fun e w' => e = .returned (.bool true) ∧ Below w.heap.size w w' := by
  have hlen := memR_len m
  go_enter Try.func10, Try.ntmps10
  go_wp2_with fail
  refine (specOfMask_any _ _).mono ?_
  rintro e w1 ⟨AW, cW, rfl, oW, b1⟩
  have OW := Own.of_new oW
  clear oW
  go_wp2_with fail
  refine (implOfMask_any _ _).mono ?_
  rintro e w2 ⟨AG, cG, rfl, oG, b2⟩
  have OG := Own.of_new oG
  have OW := OW.below b2
  have B2 := below_step b1 b2
  have s1 := b1.size
  clear oG b1 b2
  go_wp2_with fail
  refine (eqIntS_yes _ _ _ _ _ _ OG.il OW.il (by omega)).mono ?_
  rintro e w3 ⟨rfl, b3⟩
  have OG := OG.below b3
  have OW := OW.below b3
  have B3 := below_step B2 b3
  clear b3 B2
  go_wp2_with fail
  refine (mark_own _ _ _ 1 _ (by omega) _ OG (by omega) (by omega)).mono ?_
  rintro e w4 ⟨rfl, OG2, g4⟩
  have OW := OW.other OG g4 (by omega)
  have B4 := OG.keeps B3 (by omega) g4
  clear g4 B3 OG
  go_wp2_with fail
  refine (held_own _ _ 1 _ _ (by omega) _ OG2.il (by omega) (by omega)).mono ?_
  rintro e w' ⟨rfl, rfl⟩
  go_wp2_with fail
  refine (implOfMask_any _ _).mono ?_
  rintro e w5 ⟨AH, cH, rfl, oH, b5⟩
  have OW := OW.below b5
  have OG2 := OG2.below b5
  have B5 := below_step B4 b5
  clear b5 B4
  go_wp2_with fail
  refine (eqIntS_yes _ _ _ _ _ _ (IL.of_own oH).1 OW.il (by omega)).mono ?_
  rintro e w6 ⟨rfl, b6⟩
  have OG2 := OG2.below b6
  have B6 := below_step B5 b6
  clear b6 B5 oH OW
  go_wp2_with fail
  refine (held_own _ _ 1 _ _ (by omega) _ OG2.il (by omega) (by omega)).mono ?_
  rintro e w' ⟨rfl, rfl⟩
  clear OG2
  go_wp2
  go_ret
  exact ⟨rfl, B6⟩
end Go.Proofs.Ythgfhnjdefbdfaa
