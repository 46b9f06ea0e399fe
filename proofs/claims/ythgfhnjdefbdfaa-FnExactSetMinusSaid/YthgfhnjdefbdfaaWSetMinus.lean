/- The walk of the law on SetMinus. -/
import Derived.Test.YthgfhnjdefbdfaaSpecV
import Derived.Test.YthgfhnjdefbdfaaImpl
import Derived.Test.YthgfhnjdefbdfaaOwn
namespace Go.Proofs.Ythgfhnjdefbdfaa
open Go.RowKit

theorem walkSetMinus_len (a b : List Int) : (both minus a b).length ≤ 6 := both_len (fun a b h => by have := minus_len a b; have := vld_len h; omega) a b

set_option maxHeartbeats 1600000 in
theorem walkSetMinus (A B : Option Addr) (c d : Nat) (a b : List Int) (w : World) (ha : IL w A a) (hb : IL w B b) (hma : a.length ≤ maxLen) (hmb : b.length ≤ maxLen) :
    Calls Try.prog 7 #[.slice A a.length c, .slice B b.length d] w fun e w' => e = .returned (.bool true) ∧ Below w.heap.size w w' := by
  unfold maxLen at hma hmb
  by_cases hla : a.length ≤ 1048576
  · by_cases hlb : b.length ≤ 1048576
    · have hlen := walkSetMinus_len a b
      go_enter Try.func7, Try.ntmps7
      go_wp2_with fail
      refine (toIntS_any _ _ _ _ ha hla).mono ?_
      rintro e w1 ⟨g1, rfl, o1, b1⟩
      go_wp2_with fail
      refine (toIntS_any _ _ _ _ (hb.below b1) hlb).mono ?_
      rintro e w2 ⟨g2, rfl, o2, b2⟩
      go_wp2_with fail
      refine (specMinus_any _ _ _ _ _ _ _ ((IL.of_own o1).1.below b2) (IL.of_own o2).1 hla hlb).mono ?_
      rintro e w3 ⟨AW, cW, rfl, oW, b3⟩
      have B3 := below_step (below_step b1 b2) b3
      have OW := Own.of_new oW
      have sW : w.heap.size ≤ w2.heap.size := Nat.le_trans b1.size b2.size
      clear o1 o2 b1 b2 b3 oW
      generalize w2.heap.size = s2 at *
      go_wp2_with fail
      refine (toIntS_any _ _ _ _ (ha.below B3) hla).mono ?_
      rintro e w4 ⟨gx, rfl, ox, b4⟩
      have OX := Own.of_new ox
      have OW := OW.below b4
      have B4 := below_step B3 b4
      have s3 := B3.size
      have q4 := b4.size
      clear ox b4 B3
      generalize w3.heap.size = s3' at *
      go_wp2_with fail
      refine (toIntS_any _ _ _ _ (hb.below B4) hlb).mono ?_
      rintro e w5 ⟨gy, rfl, oy, b5⟩
      have OY := Own.of_new oy
      have OW := OW.below b5
      have OX := OX.below b5
      have B5 := below_step B4 b5
      have s4 := B4.size
      have q5 := b5.size
      clear oy b5 B4
      generalize w4.heap.size = s4' at *
      go_wp2_with fail
      refine (implMinus_any _ _ _ _ _ _ _ OX.il OY.il hla hlb).mono ?_
      rintro e w6 ⟨AG, cG, rfl, oG, b6⟩
      have OG := Own.of_new oG
      have OW := OW.below b6
      have OX := OX.below b6
      have OY := OY.below b6
      have B6 := below_step B5 b6
      have s5 := B5.size
      have q6 := b6.size
      clear oG b6 B5
      generalize w5.heap.size = s5' at *
      generalize w6.heap.size = s6' at *
      go_wp2_with fail
      refine (eqIntS_yes _ _ _ _ _ _ OG.il OW.il (by omega)).mono ?_
      rintro e w7 ⟨rfl, b7⟩
      have OW := OW.below b7
      have OX := OX.below b7
      have OY := OY.below b7
      have OG := OG.below b7
      have B7 := below_step B6 b7
      clear b7 B6
      go_wp2_with fail
      refine (toIntS_any _ _ _ _ (ha.below B7) hla).mono ?_
      rintro e w8 ⟨g8, rfl, o8, b8⟩
      have OW := OW.below b8
      have OX := OX.below b8
      have OY := OY.below b8
      have OG := OG.below b8
      have B8 := below_step B7 b8
      clear b8 B7
      go_wp2_with fail
      refine (eqIntS_yes _ _ _ _ _ _ OX.il (IL.of_own o8).1 hla).mono ?_
      rintro e w9 ⟨rfl, b9⟩
      have OW := OW.below b9
      have OX := OX.below b9
      have OY := OY.below b9
      have OG := OG.below b9
      have B9 := below_step B8 b9
      clear b9 B8 o8
      go_wp2_with fail
      refine (toIntS_any _ _ _ _ (hb.below B9) hlb).mono ?_
      rintro e w10 ⟨g10, rfl, o10, b10⟩
      have OW := OW.below b10
      have OX := OX.below b10
      have OY := OY.below b10
      have OG := OG.below b10
      have B10 := below_step B9 b10
      clear b10 B9
      go_wp2_with fail
      refine (eqIntS_yes _ _ _ _ _ _ OY.il (IL.of_own o10).1 hlb).mono ?_
      rintro e w11 ⟨rfl, b11⟩
      have OW := OW.below b11
      have OX := OX.below b11
      have OY := OY.below b11
      have OG := OG.below b11
      have B11 := below_step B10 b11
      clear b11 B10 o10
      go_wp2_with fail
      refine (mark_own _ _ _ 1 _ (by omega) _ OX hla (by omega)).mono ?_
      rintro e w12 ⟨rfl, OX2, g12⟩
      have OW := OW.other OX g12 (by omega)
      have OY := OY.other OX g12 (by omega)
      have OG := OG.other OX g12 (by omega)
      have B12 := OX.keeps B11 (by omega) g12
      clear g12 B11 OX OX2
      go_wp2_with fail
      refine (mark_own _ _ _ (1 + a.length) _ (by omega) _ OY hlb (by omega)).mono ?_
      rintro e w13 ⟨rfl, OY2, g13⟩
      have OW := OW.other OY g13 (by omega)
      have OG := OG.other OY g13 (by omega)
      have B13 := OY.keeps B12 (by omega) g13
      clear g13 B12 OY OY2
      go_wp2_with fail
      refine (eqIntS_yes _ _ _ _ _ _ OG.il OW.il (by omega)).mono ?_
      rintro e w14 ⟨rfl, b14⟩
      have OW := OW.below b14
      have OG := OG.below b14
      have B14 := below_step B13 b14
      clear b14 B13
      go_wp2_with fail
      refine (mark_own _ _ _ 1 _ (by omega) _ OG (by omega) (by omega)).mono ?_
      rintro e w15 ⟨rfl, OG2, g15⟩
      have OW := OW.other OG g15 (by omega)
      have B15 := OG.keeps B14 (by omega) g15
      clear g15 B14 OG
      go_wp2_with fail
      refine (held_own _ _ 1 _ _ (by omega) _ OG2.il (by omega) (by omega)).mono ?_
      rintro e w' ⟨rfl, rfl⟩
      go_wp2_with fail
      refine (toIntS_any _ _ _ _ (ha.below B15) hla).mono ?_
      rintro e w16 ⟨g16, rfl, o16, b16⟩
      have OW := OW.below b16
      have OG2 := OG2.below b16
      have B16 := below_step B15 b16
      clear b16 B15
      go_wp2_with fail
      refine (toIntS_any _ _ _ _ (hb.below B16) hlb).mono ?_
      rintro e w17 ⟨g17, rfl, o17, b17⟩
      have OW := OW.below b17
      have OG2 := OG2.below b17
      have B17 := below_step B16 b17
      go_wp2_with fail
      refine (implMinus_any _ _ _ _ _ _ _ ((IL.of_own o16).1.below b17) (IL.of_own o17).1 hla hlb).mono ?_
      rintro e w18 ⟨AH, cH, rfl, oH, b18⟩
      have OW := OW.below b18
      have OG2 := OG2.below b18
      have B18 := below_step B17 b18
      clear b17 b18 B16 B17 o16 o17
      go_wp2_with fail
      refine (eqIntS_yes _ _ _ _ _ _ (IL.of_own oH).1 OW.il (by omega)).mono ?_
      rintro e w19 ⟨rfl, b19⟩
      have OG2 := OG2.below b19
      have B19 := below_step B18 b19
      clear b19 B18 oH OW
      go_wp2_with fail
      refine (held_own _ _ 1 _ _ (by omega) _ OG2.il (by omega) (by omega)).mono ?_
      rintro e w' ⟨rfl, rfl⟩
      clear OG2
      go_wp2
      go_ret
      exact ⟨rfl, B19⟩
    · go_enter Try.func7, Try.ntmps7
      go_wp2
      go_ret
      exact ⟨rfl, Below.refl _ _⟩
  · go_enter Try.func7, Try.ntmps7
    go_wp2
    go_ret
    exact ⟨rfl, Below.refl _ _⟩
end Go.Proofs.Ythgfhnjdefbdfaa
