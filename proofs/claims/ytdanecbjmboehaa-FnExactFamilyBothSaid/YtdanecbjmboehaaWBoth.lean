/- The walk of the law on FamilyBoth. -/
import Derived.Test.YtdanecbjmboehaaWMin
import Derived.Test.YtdanecbjmboehaaBothS
namespace Go.Proofs.Ytdanecbjmboehaa
open Go.RowKit

set_option maxRecDepth 100000 in
set_option maxHeartbeats 3200000 in
theorem walkBoth (A : Option Addr) (B : Option Addr) (c0 : Nat) (c1 : Nat) (F : List (List Int)) (G : List (List Int)) (w : World) (h0 : ISS w A F) (m0 : F.length ≤ maxLen) (s0 : Short F maxLen) (h1 : ISS w B G) (m1 : G.length ≤ maxLen) (s1 : Short G maxLen) :
    Calls Try.prog 12 #[.slice A F.length c0, .slice B G.length c1] w fun e w' => e = .returned (.bool true) ∧ Below w.heap.size w w' := by
  by_cases z0 : F.length + wt F ≤ 1048576
  · by_cases z1 : G.length + wt G ≤ 1048576 - (F.length + wt F)
    · have L0 : F.length ≤ 1048576 := by omega
      have S0 : Short F 1048576 := wt_short (n := 1048576) (by omega)
      have M0 := Lib.hid m0
      clear m0
      have L1 : G.length ≤ 1048576 := by omega
      have S1 : Short G 1048576 := wt_short (n := 1048576) (by omega)
      have M1 := Lib.hid m1
      clear m1
      have hO := outM_len (bothM F G) (bothOk F G)
      have wO := outM_wt (bothM F G) (bothOk F G)
      have sO := outM_short (bothM F G) (bothOk F G)
      go_enter Try.func12, Try.ntmps12
      go_wp2_with fail
      refine (szIntSS_yes _ _ 1048576 _ _ h0 M0.out s0 (Nat.le_refl _) z0).mono ?_
      rintro e w' ⟨rfl, rfl⟩
      go_wp2_with fail
      refine (szIntSS_yes _ _ (1048576 - (F.length + wt F)) _ _ h1 M1.out s1 (by omega) z1).mono ?_
      rintro e w' ⟨rfl, rfl⟩
      go_wp2_with fail
      refine (toIntSS_any _ _ _ _ (h0) L0 S0).mono ?_
      rintro e w1 ⟨g_w1, rfl, p0, b_w1⟩
      have B_b_w1 := b_w1
      have z_B_b_w1 := B_b_w1.size
      clear b_w1
      go_wp2_with fail
      refine (toIntSS_any _ _ _ _ (h1.below B_b_w1) L1 S1).mono ?_
      rintro e w2 ⟨g_w2, rfl, p1, b_w2⟩
      have p0 := p0.below b_w2
      have B_b_w2 := below_step B_b_w1 b_w2
      clear B_b_w1
      have z_B_b_w2 := B_b_w2.size
      clear b_w2
      go_wp2_with fail
      refine (specBoth_any _ _ _ _ _ _ _ p0.iss p1.iss L0 L1 S0 S1).mono ?_
      rintro e w3 ⟨A_OW, c_OW, rfl, OW, b_w3⟩
      clear p0 p1
      have B_b_w3 := below_step B_b_w2 b_w3
      clear B_b_w2
      have z_B_b_w3 := B_b_w3.size
      clear b_w3
      go_wp2_with fail
      refine (toIntSS_any _ _ _ _ (h0.below B_b_w3) L0 S0).mono ?_
      rintro e w4 ⟨g_w4, rfl, OX0, b_w4⟩
      have q_w4 := b_w4.size
      have OW := OW.below b_w4
      have B_b_w4 := below_step B_b_w3 b_w4
      clear B_b_w3
      have z_B_b_w4 := B_b_w4.size
      clear b_w4
      go_wp2_with fail
      refine (toIntSS_any _ _ _ _ (h1.below B_b_w4) L1 S1).mono ?_
      rintro e w5 ⟨g_w5, rfl, OX1, b_w5⟩
      have q_w5 := b_w5.size
      have OW := OW.below b_w5
      have OX0 := OX0.below b_w5
      have B_b_w5 := below_step B_b_w4 b_w5
      clear B_b_w4
      have z_B_b_w5 := B_b_w5.size
      clear b_w5
      go_wp2_with fail
      refine (implBoth_any _ _ _ _ _ _ _ OX0.iss OX1.iss L0 L1 S0 S1).mono ?_
      rintro e w6 ⟨A_OG, c_OG, rfl, OG, b_w6⟩
      have q_w6 := b_w6.size
      have OW := OW.below b_w6
      have OX0 := OX0.below b_w6
      have OX1 := OX1.below b_w6
      have B_b_w6 := below_step B_b_w5 b_w6
      clear B_b_w5
      have z_B_b_w6 := B_b_w6.size
      clear b_w6
      go_wp2_with fail
      refine (eqIntSS_yes _ _ _ _ _ _ OG.iss OW.iss (by omega) sO).mono ?_
      rintro e w7 ⟨rfl, d_w7⟩
      have OW := OW.below d_w7.below
      have OX0 := OX0.below d_w7.below
      have OX1 := OX1.below d_w7.below
      have OG := OG.below d_w7.below
      have B_d_w7 := below_step B_b_w6 d_w7.below
      clear B_b_w6
      have z_B_d_w7 := B_d_w7.size
      clear d_w7
      go_wp2_with fail
      refine (toIntSS_any _ _ _ _ (h0.below B_d_w7) L0 S0).mono ?_
      rintro e w8 ⟨g_w8, rfl, t_, b_w8⟩
      have q_w8 := b_w8.size
      have OW := OW.below b_w8
      have OX0 := OX0.below b_w8
      have OX1 := OX1.below b_w8
      have OG := OG.below b_w8
      have B_b_w8 := below_step B_d_w7 b_w8
      clear B_d_w7
      have z_B_b_w8 := B_b_w8.size
      clear b_w8
      go_wp2_with fail
      refine (eqIntSS_yes _ _ _ _ _ _ OX0.iss t_.iss L0 S0).mono ?_
      rintro e w9 ⟨rfl, d_w9⟩
      have OW := OW.below d_w9.below
      have OX0 := OX0.below d_w9.below
      have OX1 := OX1.below d_w9.below
      have OG := OG.below d_w9.below
      have B_d_w9 := below_step B_b_w8 d_w9.below
      clear B_b_w8
      have z_B_d_w9 := B_d_w9.size
      clear d_w9
      clear t_
      go_wp2_with fail
      refine (toIntSS_any _ _ _ _ (h1.below B_d_w9) L1 S1).mono ?_
      rintro e w10 ⟨g_w10, rfl, t_, b_w10⟩
      have q_w10 := b_w10.size
      have OW := OW.below b_w10
      have OX0 := OX0.below b_w10
      have OX1 := OX1.below b_w10
      have OG := OG.below b_w10
      have B_b_w10 := below_step B_d_w9 b_w10
      clear B_d_w9
      have z_B_b_w10 := B_b_w10.size
      clear b_w10
      go_wp2_with fail
      refine (eqIntSS_yes _ _ _ _ _ _ OX1.iss t_.iss L1 S1).mono ?_
      rintro e w11 ⟨rfl, d_w11⟩
      have OW := OW.below d_w11.below
      have OX0 := OX0.below d_w11.below
      have OX1 := OX1.below d_w11.below
      have OG := OG.below d_w11.below
      have B_d_w11 := below_step B_b_w10 d_w11.below
      clear B_b_w10
      have z_B_d_w11 := B_d_w11.size
      clear d_w11
      clear t_
      go_wp2_with fail
      refine (markSS_i _ _ _ _ _ (1) _ (by omega) _ OX0 L0 (by omega) (by omega)).mono ?_
      rintro e w12 ⟨rfl, OX02, k_w12⟩
      have OW := OW.keep k_w12 (by omega)
      have OX1 := OX1.keep k_w12 (by omega)
      have OG := OG.keep k_w12 (by omega)
      have B_w12 := below_keep B_d_w11 k_w12 (by omega)
      clear B_d_w11 k_w12
      clear OX0 OX02
      go_wp2_with fail
      refine (markSS_i _ _ _ _ _ (1 + wt F) _ (by omega) _ OX1 L1 (by omega) (by omega)).mono ?_
      rintro e w13 ⟨rfl, OX12, k_w13⟩
      have OW := OW.keep k_w13 (by omega)
      have OG := OG.keep k_w13 (by omega)
      have B_w13 := below_keep B_w12 k_w13 (by omega)
      clear B_w12 k_w13
      clear OX1 OX12
      go_wp2_with fail
      refine (eqIntSS_yes _ _ _ _ _ _ OG.iss OW.iss (by omega) sO).mono ?_
      rintro e w14 ⟨rfl, d_w14⟩
      have OW := OW.below d_w14.below
      have OG := OG.below d_w14.below
      have B_d_w14 := below_step B_w13 d_w14.below
      clear B_w13
      have z_B_d_w14 := B_d_w14.size
      clear d_w14
      go_wp2_with fail
      refine (markSS_i _ _ _ _ _ (1) _ (by omega) _ OG (by omega) (by omega) (by omega)).mono ?_
      rintro e w15 ⟨rfl, OG2, k_w15⟩
      have OW := OW.keep k_w15 (by omega)
      have B_w15 := below_keep B_d_w14 k_w15 (by omega)
      clear B_d_w14 k_w15
      clear OG
      go_wp2_with fail
      refine (heldSS_i _ _ _ 1 _ (by omega) _ OG2.iss (by omega) (by omega) (by omega)).mono ?_
      rintro e w' ⟨rfl, rfl⟩
      go_wp2_with fail
      refine (toIntSS_any _ _ _ _ (h0.below B_w15) L0 S0).mono ?_
      rintro e w16 ⟨g_w16, rfl, r0, b_w16⟩
      have OW := OW.below b_w16
      have OG2 := OG2.below b_w16
      have B_b_w16 := below_step B_w15 b_w16
      clear B_w15
      have z_B_b_w16 := B_b_w16.size
      clear b_w16
      go_wp2_with fail
      refine (toIntSS_any _ _ _ _ (h1.below B_b_w16) L1 S1).mono ?_
      rintro e w17 ⟨g_w17, rfl, r1, b_w17⟩
      have OW := OW.below b_w17
      have OG2 := OG2.below b_w17
      have r0 := r0.below b_w17
      have B_b_w17 := below_step B_b_w16 b_w17
      clear B_b_w16
      have z_B_b_w17 := B_b_w17.size
      clear b_w17
      go_wp2_with fail
      refine (implBoth_any _ _ _ _ _ _ _ r0.iss r1.iss L0 L1 S0 S1).mono ?_
      rintro e w18 ⟨A_OH, c_OH, rfl, OH, b_w18⟩
      clear r0 r1
      have OW := OW.below b_w18
      have OG2 := OG2.below b_w18
      have B_b_w18 := below_step B_b_w17 b_w18
      clear B_b_w17
      have z_B_b_w18 := B_b_w18.size
      clear b_w18
      go_wp2_with fail
      refine (eqIntSS_yes _ _ _ _ _ _ OH.iss OW.iss (by omega) sO).mono ?_
      rintro e w19 ⟨rfl, d_w19⟩
      have OW := OW.below d_w19.below
      have OG2 := OG2.below d_w19.below
      have OH := OH.below d_w19.below
      have B_d_w19 := below_step B_b_w18 d_w19.below
      clear B_b_w18
      have z_B_d_w19 := B_d_w19.size
      clear d_w19
      go_wp2_with fail
      refine (heldSS_i _ _ _ 1 _ (by omega) _ OG2.iss (by omega) (by omega) (by omega)).mono ?_
      rintro e w' ⟨rfl, rfl⟩
      clear OH OW OG2
      go_wp2
      go_ret
      exact ⟨rfl, B_d_w19⟩
    · go_enter Try.func12, Try.ntmps12
      go_wp2_with fail
      refine (szIntSS_yes _ _ 1048576 _ _ h0 m0 s0 (Nat.le_refl _) z0).mono ?_
      rintro e w' ⟨rfl, rfl⟩
      go_wp2_with fail
      refine (szIntSS_no _ _ (1048576 - (F.length + wt F)) _ _ h1 m1 s1 (by omega) z1).mono ?_
      rintro e w' ⟨rfl, rfl⟩
      go_wp2
      go_ret
      exact ⟨rfl, Below.refl _ _⟩
  · go_enter Try.func12, Try.ntmps12
    go_wp2_with fail
    refine (szIntSS_no _ _ 1048576 _ _ h0 m0 s0 (Nat.le_refl _) z0).mono ?_
    rintro e w' ⟨rfl, rfl⟩
    go_wp2
    go_ret
    exact ⟨rfl, Below.refl _ _⟩
end Go.Proofs.Ytdanecbjmboehaa
