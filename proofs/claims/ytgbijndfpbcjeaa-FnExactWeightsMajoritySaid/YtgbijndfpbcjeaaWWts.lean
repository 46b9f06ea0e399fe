/- The walks of the laws on WeightsValid, WeightsMajority and WeightsSum. -/
import Derived.Test.YtgbijndfpbcjeaaWtJ
namespace Go.Proofs.Ytgbijndfpbcjeaa
open Go.RowKit

set_option maxRecDepth 100000 in
set_option maxHeartbeats 1600000 in
theorem walkWeightsValid (A : Option Addr) (c : Nat) (l : List Int) (w : World) (ha : IL w A l) (hm : l.length ≤ maxLen) :
    Calls Try.prog 11 #[.slice A l.length c] w fun e w' => e = .returned (.bool true) ∧ Below w.heap.size w w' := by
  unfold maxLen at hm
  by_cases hl : l.length ≤ 1048576
  · go_enter Try.func11, Try.ntmps11
    go_wp2_with fail
    refine (toIntS_any _ _ _ _ ha hl).mono ?_
    rintro e w1 ⟨g1, rfl, o1, b1⟩
    go_wp2_with fail
    refine (specWV_any _ _ _ _ (IL.of_own o1).1 hl).mono ?_
    rintro e w' ⟨rfl, rfl⟩
    have b2' := b1
    clear o1 b1
    go_wp2_with fail
    refine (toIntS_any _ _ _ _ (ha.below b2') hl).mono ?_
    rintro e w3 ⟨g3, rfl, o3, b3⟩
    have O3 := Own.of_new o3
    have b3' := below_step b2' b3
    clear b3 o3 b2'
    go_wp2_with fail
    refine (implWV_any _ _ _ _ O3.il hl).mono ?_
    rintro e wi ⟨rfl, bi⟩
    have O3 := O3.below bi
    have bi' := below_step b3' bi
    clear bi b3'
    go_wp2_with fail
    refine (toIntS_any _ _ _ _ (ha.below bi') hl).mono ?_
    rintro e w4 ⟨g4, rfl, o4, b4⟩
    have O3 := O3.below b4
    go_wp2_with fail
    refine (eqIntS_yes _ _ _ _ _ _ O3.il (IL.of_own o4).1 hl).mono ?_
    rintro e w5 ⟨rfl, b5⟩
    have b5' := below_step (below_step bi' b4) b5
    clear O3 o4 b4 b5
    go_wp2
    go_ret
    exact ⟨rfl, b5'⟩
  · go_enter Try.func11, Try.ntmps11
    go_wp2
    go_ret
    exact ⟨rfl, Below.refl _ _⟩

set_option maxRecDepth 100000 in
set_option maxHeartbeats 1600000 in
theorem walkWeightsMajority (A : Option Addr) (c : Nat) (l : List Int) (w : World) (ha : IL w A l) (hm : l.length ≤ maxLen) :
    Calls Try.prog 14 #[.slice A l.length c] w fun e w' => e = .returned (.bool true) ∧ Below w.heap.size w w' := by
  unfold maxLen at hm
  by_cases hl : l.length ≤ 1048576
  · go_enter Try.func14, Try.ntmps14
    go_wp2_with fail
    refine (toIntS_any _ _ _ _ ha hl).mono ?_
    rintro e w1 ⟨g1, rfl, o1, b1⟩
    go_wp2_with fail
    refine (specWMaj_any _ _ _ _ (IL.of_own o1).1 hl).mono ?_
    rintro e w2 ⟨rfl, b2⟩
    have b2' := below_step b1 b2
    clear o1 b1 b2
    go_wp2_with fail
    refine (toIntS_any _ _ _ _ (ha.below b2') hl).mono ?_
    rintro e w3 ⟨g3, rfl, o3, b3⟩
    have O3 := Own.of_new o3
    have b3' := below_step b2' b3
    clear b3 o3 b2'
    go_wp2_with fail
    refine (implWMaj_any _ _ _ _ O3.il hl).mono ?_
    rintro e wi ⟨rfl, bi⟩
    have O3 := O3.below bi
    have bi' := below_step b3' bi
    clear bi b3'
    go_wp2_with fail
    refine (toIntS_any _ _ _ _ (ha.below bi') hl).mono ?_
    rintro e w4 ⟨g4, rfl, o4, b4⟩
    have O3 := O3.below b4
    go_wp2_with fail
    refine (eqIntS_yes _ _ _ _ _ _ O3.il (IL.of_own o4).1 hl).mono ?_
    rintro e w5 ⟨rfl, b5⟩
    have b5' := below_step (below_step bi' b4) b5
    clear O3 o4 b4 b5
    go_wp2
    go_ret
    exact ⟨rfl, b5'⟩
  · go_enter Try.func14, Try.ntmps14
    go_wp2
    go_ret
    exact ⟨rfl, Below.refl _ _⟩

set_option maxRecDepth 100000 in
set_option maxHeartbeats 1600000 in
theorem walkWeightsSum (A B : Option Addr) (c d : Nat) (a b : List Int) (w : World) (ha : IL w A a) (hb : IL w B b) (hma : a.length ≤ maxLen) (hmb : b.length ≤ maxLen) :
    Calls Try.prog 12 #[.slice A a.length c, .slice B b.length d] w fun e w' => e = .returned (.bool true) ∧ Below w.heap.size w w' := by
  unfold maxLen at hma hmb
  by_cases hla : a.length ≤ 1048576
  · by_cases hlb : b.length ≤ 1048576
    · go_enter Try.func12, Try.ntmps12
      go_wp2_with fail
      refine (toIntS_any _ _ _ _ ha hla).mono ?_
      rintro e w1 ⟨g1, rfl, o1, b1⟩
      go_wp2_with fail
      refine (toIntS_any _ _ _ _ (hb.below b1) hlb).mono ?_
      rintro e w2 ⟨g2, rfl, o2, b2⟩
      go_wp2_with fail
      refine (specWSum_any _ _ _ _ _ _ _ ((IL.of_own o1).1.below b2) (IL.of_own o2).1 hla hlb).mono ?_
      rintro e w3 ⟨rfl, b3⟩
      have B3 := below_step (below_step b1 b2) b3
      clear o1 o2 b1 b2 b3
      go_wp2_with fail
      refine (toIntS_any _ _ _ _ (ha.below B3) hla).mono ?_
      rintro e w4 ⟨gx, rfl, ox, b4⟩
      have OX := Own.of_new ox
      have B4 := below_step B3 b4
      clear ox b4 B3
      go_wp2_with fail
      refine (toIntS_any _ _ _ _ (hb.below B4) hlb).mono ?_
      rintro e w5 ⟨gy, rfl, oy, b5⟩
      have OY := Own.of_new oy
      have OX := OX.below b5
      have B5 := below_step B4 b5
      clear oy b5 B4
      go_wp2_with fail
      refine (implWSum_any _ _ _ _ _ _ _ OX.il OY.il hla hlb).mono ?_
      rintro e w6 ⟨rfl, b6⟩
      have OX := OX.below b6
      have OY := OY.below b6
      have B5 := below_step B5 b6
      clear b6
      go_wp2_with fail
      refine (toIntS_any _ _ _ _ (ha.below B5) hla).mono ?_
      rintro e w8 ⟨g8, rfl, o8, b8⟩
      have OX := OX.below b8
      have OY := OY.below b8
      have B8 := below_step B5 b8
      clear b8 B5
      go_wp2_with fail
      refine (eqIntS_yes _ _ _ _ _ _ OX.il (IL.of_own o8).1 hla).mono ?_
      rintro e w9 ⟨rfl, b9⟩
      have OY := OY.below b9
      have B9 := below_step B8 b9
      clear b9 B8 o8 OX
      go_wp2_with fail
      refine (toIntS_any _ _ _ _ (hb.below B9) hlb).mono ?_
      rintro e w10 ⟨g10, rfl, o10, b10⟩
      have OY := OY.below b10
      have B10 := below_step B9 b10
      clear b10 B9
      go_wp2_with fail
      refine (eqIntS_yes _ _ _ _ _ _ OY.il (IL.of_own o10).1 hlb).mono ?_
      rintro e w11 ⟨rfl, b11⟩
      have B11 := below_step B10 b11
      clear b11 B10 o10 OY
      go_wp2
      go_ret
      exact ⟨rfl, B11⟩
    · go_enter Try.func12, Try.ntmps12
      go_wp2
      go_ret
      exact ⟨rfl, Below.refl _ _⟩
  · go_enter Try.func12, Try.ntmps12
    go_wp2
    go_ret
    exact ⟨rfl, Below.refl _ _⟩
end Go.Proofs.Ytgbijndfpbcjeaa
