/- The walk of the law on WeightsFamily. -/
import Derived.Test.YtgbijndfpbcjeaaWMin
import Derived.Test.YtgbijndfpbcjeaaWtL
namespace Go.Proofs.Ytgbijndfpbcjeaa
open Go.RowKit

set_option maxRecDepth 100000 in
set_option maxHeartbeats 3200000 in
theorem walkWFam (A0 : Option Addr) (c0 : Nat) (v0 : List Int) (n1 : Int) (w : World) (h0 : IL w A0 v0) (m0 : v0.length ≤ maxLen) :
    Calls Try.prog 13 #[.slice A0 v0.length c0, .int .i64 n1] w fun e w' => e = .returned (.bool true) ∧ Below w.heap.size w w' := by
  unfold maxLen at m0
  by_cases L0 : v0.length ≤ 1048576
  · have hO := outM_len (enoL v0 n1) (wfOk v0 n1)
    have wO := outM_wt (enoL v0 n1) (wfOk v0 n1)
    have sO := outM_short (enoL v0 n1) (wfOk v0 n1)
    go_enter Try.func13, Try.ntmps13
    go_wp2_with fail
    refine (toIntS_any _ _ _ _ (h0) L0).mono ?_
    rintro e w1 ⟨g_w1, rfl, o_w1, b_w1⟩
    have p0 := Own.of_new o_w1
    clear o_w1
    have B_b_w1 := b_w1
    have z_B_b_w1 := B_b_w1.size
    clear b_w1
    go_wp2_with fail
    refine (specWFam_any _ _ _ _ _ p0.il L0).mono ?_
    rintro e w2 ⟨A_OW, c_OW, rfl, OW, b_w2⟩
    clear p0
    have B_b_w2 := below_step B_b_w1 b_w2
    clear B_b_w1
    have z_B_b_w2 := B_b_w2.size
    clear b_w2
    go_wp2_with fail
    refine (toIntS_any _ _ _ _ (h0.below B_b_w2) L0).mono ?_
    rintro e w3 ⟨g_w3, rfl, o_w3, b_w3⟩
    have OX0 := Own.of_new o_w3
    clear o_w3
    have q_w3 := b_w3.size
    have OW := OW.below b_w3
    have B_b_w3 := below_step B_b_w2 b_w3
    clear B_b_w2
    have z_B_b_w3 := B_b_w3.size
    clear b_w3
    go_wp2_with fail
    refine (implWFam_any _ _ _ _ _ OX0.il L0).mono ?_
    rintro e w4 ⟨A_OG, c_OG, rfl, OG, b_w4⟩
    have q_w4 := b_w4.size
    have OW := OW.below b_w4
    have OX0 := OX0.below b_w4
    have B_b_w4 := below_step B_b_w3 b_w4
    clear B_b_w3
    have z_B_b_w4 := B_b_w4.size
    clear b_w4
    go_wp2_with fail
    refine (eqIntSS_yes _ _ _ _ _ _ OG.iss OW.iss (by omega) sO).mono ?_
    rintro e w5 ⟨rfl, d_w5⟩
    have OW := OW.below d_w5.below
    have OX0 := OX0.below d_w5.below
    have OG := OG.below d_w5.below
    have B_d_w5 := below_step B_b_w4 d_w5.below
    clear B_b_w4
    have z_B_d_w5 := B_d_w5.size
    clear d_w5
    go_wp2_with fail
    refine (toIntS_any _ _ _ _ (h0.below B_d_w5) L0).mono ?_
    rintro e w6 ⟨g_w6, rfl, o_w6, b_w6⟩
    have t_ := Own.of_new o_w6
    clear o_w6
    have q_w6 := b_w6.size
    have OW := OW.below b_w6
    have OX0 := OX0.below b_w6
    have OG := OG.below b_w6
    have B_b_w6 := below_step B_d_w5 b_w6
    clear B_d_w5
    have z_B_b_w6 := B_b_w6.size
    clear b_w6
    go_wp2_with fail
    refine (eqIntS_yes _ _ _ _ _ _ OX0.il t_.il L0).mono ?_
    rintro e w7 ⟨rfl, b_w7⟩
    have OW := OW.below b_w7
    have OX0 := OX0.below b_w7
    have OG := OG.below b_w7
    have B_b_w7 := below_step B_b_w6 b_w7
    clear B_b_w6
    have z_B_b_w7 := B_b_w7.size
    clear b_w7
    clear t_
    go_wp2_with fail
    refine (mark_own _ _ _ (1) _ (by omega) _ OX0 L0 (by omega)).mono ?_
    rintro e w8 ⟨rfl, X2_, g_w8⟩
    have k_w8 := Keep.of_grown g_w8 OX0.2.2
    have OW := OW.keep k_w8 (by omega)
    have OG := OG.keep k_w8 (by omega)
    have B_w8 := below_keep B_b_w7 k_w8 (by omega)
    clear B_b_w7 k_w8 g_w8 X2_ OX0
    go_wp2_with fail
    refine (eqIntSS_yes _ _ _ _ _ _ OG.iss OW.iss (by omega) sO).mono ?_
    rintro e w9 ⟨rfl, d_w9⟩
    have OW := OW.below d_w9.below
    have OG := OG.below d_w9.below
    have B_d_w9 := below_step B_w8 d_w9.below
    clear B_w8
    have z_B_d_w9 := B_d_w9.size
    clear d_w9
    go_wp2_with fail
    refine (markSS_i _ _ _ _ _ (1) _ (by omega) _ OG (by omega) (by omega) (by omega)).mono ?_
    rintro e w10 ⟨rfl, OG2, k_w10⟩
    have OW := OW.keep k_w10 (by omega)
    have B_w10 := below_keep B_d_w9 k_w10 (by omega)
    clear B_d_w9 k_w10 OG
    go_wp2_with fail
    refine (heldSS_i _ _ _ 1 _ (by omega) _ OG2.iss (by omega) (by omega) (by omega)).mono ?_
    rintro e w' ⟨rfl, rfl⟩
    go_wp2_with fail
    refine (toIntS_any _ _ _ _ (h0.below B_w10) L0).mono ?_
    rintro e w11 ⟨g_w11, rfl, o_w11, b_w11⟩
    have r0 := Own.of_new o_w11
    clear o_w11
    have OW := OW.below b_w11
    have OG2 := OG2.below b_w11
    have B_b_w11 := below_step B_w10 b_w11
    clear B_w10
    have z_B_b_w11 := B_b_w11.size
    clear b_w11
    go_wp2_with fail
    refine (implWFam_any _ _ _ _ _ r0.il L0).mono ?_
    rintro e w12 ⟨A_OH, c_OH, rfl, OH, b_w12⟩
    clear r0
    have OW := OW.below b_w12
    have OG2 := OG2.below b_w12
    have B_b_w12 := below_step B_b_w11 b_w12
    clear B_b_w11
    have z_B_b_w12 := B_b_w12.size
    clear b_w12
    go_wp2_with fail
    refine (eqIntSS_yes _ _ _ _ _ _ OH.iss OW.iss (by omega) sO).mono ?_
    rintro e w13 ⟨rfl, d_w13⟩
    have OW := OW.below d_w13.below
    have OG2 := OG2.below d_w13.below
    have OH := OH.below d_w13.below
    have B_d_w13 := below_step B_b_w12 d_w13.below
    clear B_b_w12
    have z_B_d_w13 := B_d_w13.size
    clear d_w13
    go_wp2_with fail
    refine (heldSS_i _ _ _ 1 _ (by omega) _ OG2.iss (by omega) (by omega) (by omega)).mono ?_
    rintro e w' ⟨rfl, rfl⟩
    clear OH OW OG2
    go_wp2
    go_ret
    exact ⟨rfl, B_d_w13⟩
  · go_enter Try.func13, Try.ntmps13
    go_wp2
    go_ret
    exact ⟨rfl, Below.refl _ _⟩
end Go.Proofs.Ytgbijndfpbcjeaa
