/- The walk of the law on FamilyOfExpr. -/
import Derived.Test.YtgbijndfpbcjeaaWMin
import Derived.Test.YtgbijndfpbcjeaaOfEx
namespace Go.Proofs.Ytgbijndfpbcjeaa
open Go.RowKit

set_option maxRecDepth 100000 in
set_option maxHeartbeats 3200000 in
theorem walkOfEx (T0 : ByteArray) (w : World) (m0 : T0.size ≤ maxLen) :
    Calls Try.prog 9 #[.string T0] w fun e w' => e = .returned (.bool true) ∧ Below w.heap.size w w' := by
  unfold maxLen at m0
  by_cases L0 : T0.size ≤ 1048576
  · have hO := outM_len (expM T0) (okX T0)
    have wO := outM_wt (expM T0) (okX T0)
    have sO := outM_short (expM T0) (okX T0)
    go_enter Try.func9, Try.ntmps9
    go_wp2_with fail
    refine (specOfEx_any _ _  L0).mono ?_
    rintro e w1 ⟨A_OW, c_OW, rfl, OW, b_w1⟩
    have B_b_w1 := b_w1
    have z_B_b_w1 := B_b_w1.size
    clear b_w1
    go_wp2_with fail
    refine (implOfEx_any _ _  L0).mono ?_
    rintro e w2 ⟨A_OG, c_OG, rfl, OG, b_w2⟩
    have q_w2 := b_w2.size
    have OW := OW.below b_w2
    have B_b_w2 := below_step B_b_w1 b_w2
    clear B_b_w1
    have z_B_b_w2 := B_b_w2.size
    clear b_w2
    go_wp2_with fail
    refine (eqIntSS_yes _ _ _ _ _ _ OG.iss OW.iss (by omega) sO).mono ?_
    rintro e w3 ⟨rfl, d_w3⟩
    have OW := OW.below d_w3.below
    have OG := OG.below d_w3.below
    have B_d_w3 := below_step B_b_w2 d_w3.below
    clear B_b_w2
    have z_B_d_w3 := B_d_w3.size
    clear d_w3
    go_wp2_with fail
    refine (markSS_i _ _ _ _ _ (1) _ (by omega) _ OG (by omega) (by omega) (by omega)).mono ?_
    rintro e w4 ⟨rfl, OG2, k_w4⟩
    have OW := OW.keep k_w4 (by omega)
    have B_w4 := below_keep B_d_w3 k_w4 (by omega)
    clear B_d_w3 k_w4 OG
    go_wp2_with fail
    refine (heldSS_i _ _ _ 1 _ (by omega) _ OG2.iss (by omega) (by omega) (by omega)).mono ?_
    rintro e w' ⟨rfl, rfl⟩
    go_wp2_with fail
    refine (implOfEx_any _ _  L0).mono ?_
    rintro e w5 ⟨A_OH, c_OH, rfl, OH, b_w5⟩
    have OW := OW.below b_w5
    have OG2 := OG2.below b_w5
    have B_b_w5 := below_step B_w4 b_w5
    clear B_w4
    have z_B_b_w5 := B_b_w5.size
    clear b_w5
    go_wp2_with fail
    refine (eqIntSS_yes _ _ _ _ _ _ OH.iss OW.iss (by omega) sO).mono ?_
    rintro e w6 ⟨rfl, d_w6⟩
    have OW := OW.below d_w6.below
    have OG2 := OG2.below d_w6.below
    have OH := OH.below d_w6.below
    have B_d_w6 := below_step B_b_w5 d_w6.below
    clear B_b_w5
    have z_B_d_w6 := B_d_w6.size
    clear d_w6
    go_wp2_with fail
    refine (heldSS_i _ _ _ 1 _ (by omega) _ OG2.iss (by omega) (by omega) (by omega)).mono ?_
    rintro e w' ⟨rfl, rfl⟩
    clear OH OW OG2
    go_wp2
    go_ret
    exact ⟨rfl, B_d_w6⟩
  · go_enter Try.func9, Try.ntmps9
    go_wp2
    go_ret
    exact ⟨rfl, Below.refl _ _⟩
end Go.Proofs.Ytgbijndfpbcjeaa
