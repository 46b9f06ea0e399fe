/- The walk of the law on CriticalMembers. -/
import Derived.Test.YtoomaiclbblcdaaGd
import Derived.Test.YtoomaiclbblcdaaMetTg
import Derived.Test.YtoomaiclbblcdaaMetIg
namespace Go.Proofs.Ytoomaiclbblcdaa
open Go.RowKit

theorem Own.keep {w w' : World} {lo hi lo2 hi2 c : Nat} {A : Option Addr} {l : List Int} (h : Own w lo hi A c l) (k : Keep lo2 hi2 w w') (hd : hi ≤ lo2 ∨ hi2 ≤ lo) : Own w' lo hi A c l :=
  h.at_ (Nat.le_trans h.2.1 k.size) fun g h1 h2 _ => k.block g (by have := h.2.1; omega) (by omega)

set_option maxRecDepth 100000 in
set_option maxHeartbeats 3200000 in
theorem walkCrit (A : Option Addr) (c0 : Nat) (F : List (List Int)) (w : World) (h0 : ISS w A F) (m0 : F.length ≤ maxLen) (s0 : Short F maxLen) :
    Calls Try.prog 15 #[.slice A F.length c0] w fun e w' => e = .returned (.bool true) ∧ Below w.heap.size w w' := by
  by_cases z0 : F.length + wt F ≤ 1048576
  · have L0 : F.length ≤ 1048576 := by omega
    have S0 : Short F 1048576 := wt_short (n := 1048576) (by omega)
    have M0 := Lib.hid m0
    clear m0
    have hO := crtR_len F
    go_enter Try.func15, Try.ntmps15
    go_wp2_with fail
    refine (szIntSS_yes _ _ 1048576 _ _ h0 M0.out s0 (Nat.le_refl _) z0).mono ?_
    rintro e w' ⟨rfl, rfl⟩
    go_wp2_with fail
    refine (toIntSS_any _ _ _ _ h0 L0 S0).mono ?_
    rintro e w1 ⟨g1, rfl, p0, b1⟩
    go_wp2_with fail
    refine (specCrit_any _ _ _ _ p0.iss L0 S0).mono ?_
    rintro e w2 ⟨A2, c2, rfl, o2, b2⟩
    have OW := Own.of_new o2
    have B2 := below_step b1 b2
    have z2 := B2.size
    clear o2 b1 b2 p0
    go_wp2_with fail
    refine (toIntSS_any _ _ _ _ (h0.below B2) L0 S0).mono ?_
    rintro e w3 ⟨g3, rfl, OX, b3⟩
    have q3 := b3.size
    have OW := OW.below b3
    have B3 := below_step B2 b3
    have z3 := B3.size
    clear B2 b3
    go_wp2_with fail
    refine (implCrit_any _ _ _ _ OX.iss L0 S0).mono ?_
    rintro e w4 ⟨A4, c4, rfl, o4, b4⟩
    have OG := Own.of_new o4
    have q4 := b4.size
    have OW := OW.below b4
    have OX := OX.below b4
    have B4 := below_step B3 b4
    have z4 := B4.size
    clear o4 B3 b4
    go_wp2_with fail
    refine (eqIntS_yes _ _ _ _ _ _ OG.il OW.il (by omega)).mono ?_
    rintro e w5 ⟨rfl, b5⟩
    have q5 := b5.size
    have OW := OW.below b5
    have OX := OX.below b5
    have OG := OG.below b5
    have B5 := below_step B4 b5
    clear B4 b5
    go_wp2_with fail
    refine (toIntSS_any _ _ _ _ (h0.below B5) L0 S0).mono ?_
    rintro e w6 ⟨g6, rfl, t_, b6⟩
    have q6 := b6.size
    have OW := OW.below b6
    have OX := OX.below b6
    have OG := OG.below b6
    have B6 := below_step B5 b6
    clear B5 b6
    go_wp2_with fail
    refine (eqIntSS_yes _ _ _ _ _ _ OX.iss t_.iss L0 S0).mono ?_
    rintro e w7 ⟨rfl, d7⟩
    have q7 := d7.below.size
    have OW := OW.below d7.below
    have OX := OX.below d7.below
    have OG := OG.below d7.below
    have B7 := below_step B6 d7.below
    clear t_ d7 B6
    go_wp2_with fail
    refine (markSS_i _ _ _ _ _ 1 _ (by omega) _ OX L0 (by omega) (by omega)).mono ?_
    rintro e w8 ⟨rfl, OX2, k8⟩
    have OW := OW.keep k8 (by omega)
    have OG := OG.keep k8 (by omega)
    have B8 := below_keep B7 k8 (by omega)
    clear OX OX2 k8 B7
    go_wp2_with fail
    refine (eqIntS_yes _ _ _ _ _ _ OG.il OW.il (by omega)).mono ?_
    rintro e w9 ⟨rfl, b9⟩
    have OW := OW.below b9
    have OG := OG.below b9
    have B9 := below_step B8 b9
    clear B8 b9
    go_wp2_with fail
    refine (mark_own _ _ _ 1 _ (by omega) _ OG (by omega) (by omega)).mono ?_
    rintro e w10 ⟨rfl, OG2, g10⟩
    have k10 := Keep.of_grown g10 OG.2.2
    have OW := OW.keep k10 (by omega)
    have B10 := below_keep B9 k10 (by omega)
    have hml := marks_len 1 (crtR F).length
    clear OG g10 k10 B9
    go_wp2_with fail
    refine (held_own _ _ 1 _ _ (by omega) _ OG2.il (by omega) (by omega)).mono ?_
    rintro e w' ⟨rfl, rfl⟩
    go_wp2_with fail
    refine (toIntSS_any _ _ _ _ (h0.below B10) L0 S0).mono ?_
    rintro e w11 ⟨g11, rfl, r0, b11⟩
    have OW := OW.below b11
    have OG2 := OG2.below b11
    have B11 := below_step B10 b11
    clear B10 b11
    go_wp2_with fail
    refine (implCrit_any _ _ _ _ r0.iss L0 S0).mono ?_
    rintro e w12 ⟨A12, c12, rfl, o12, b12⟩
    have OH := Own.of_new o12
    have OW := OW.below b12
    have OG2 := OG2.below b12
    have B12 := below_step B11 b12
    clear o12 b12 B11 r0
    go_wp2_with fail
    refine (eqIntS_yes _ _ _ _ _ _ OH.il OW.il (by omega)).mono ?_
    rintro e w13 ⟨rfl, b13⟩
    have OG2 := OG2.below b13
    have B13 := below_step B12 b13
    clear OH OW B12 b13
    go_wp2_with fail
    refine (held_own _ _ 1 _ _ (by omega) _ OG2.il (by omega) (by omega)).mono ?_
    rintro e w' ⟨rfl, rfl⟩
    clear OG2
    go_wp2
    go_ret
    exact ⟨rfl, B13⟩
  · go_enter Try.func15, Try.ntmps15
    go_wp2_with fail
    refine (szIntSS_no _ _ 1048576 _ _ h0 m0 s0 (Nat.le_refl _) z0).mono ?_
    rintro e w' ⟨rfl, rfl⟩
    go_wp2
    go_ret
    exact ⟨rfl, Below.refl _ _⟩
end Go.Proofs.Ytoomaiclbblcdaa
