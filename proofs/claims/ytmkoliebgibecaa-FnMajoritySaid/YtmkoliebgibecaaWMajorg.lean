/- The walk of the law that a majority is the smallest number above half. -/
import Derived.Test.YtmkoliebgibecaaWLawsg
namespace Go.Proofs.Ytmkoliebgibecaa
open Go.RowKit

set_option maxRecDepth 100000 in
set_option maxHeartbeats 3200000 in
theorem walkMajor (A : Option Addr) (c : Nat) (l : List Int) (w : World) (ha : BL w A l) (hc : l.length ≤ c) (hm : l.length ≤ maxLen) (hmc : c ≤ maxLen) :
    Calls Try.prog 7 #[.slice A l.length c] w fun e w' => e = .returned (.bool true) ∧ Below w.heap.size w w' := by
  have hm' := hm
  unfold maxLen at hm'
  by_cases hl : l.length ≤ 1048576
  · go_enter Try.func7, Try.ntmps7
    go_wp2_with fail
    refine (drawMaj_any _ _ _ _ ha hc hm hmc).mono ?_
    rintro e w1 ⟨v, A1, c1, hv7, rfl, i1, B1⟩
    clear ha hm
    have hvl : v.length ≤ 1048576 := by omega
    go_wp2_with fail
    refine (implWMaj_any _ _ _ _ i1 hvl).mono ?_
    rintro e w2 ⟨rfl, b2⟩
    have i2 := i1.below b2
    have B2 := below_step B1 b2
    clear i1 B1 b2
    go_wp2_with fail
    refine (specWMaj_any _ _ _ _ i2 hvl).mono ?_
    rintro e w3 ⟨rfl, b3⟩
    have i3 := i2.below b3
    have B3 := below_step B2 b3
    clear i2 B2 b3
    cases hv : wOk v
    · have HM := Lib.hid (show majR v = 0 by simp [majR, hv])
      have HV := Lib.hid hv
      clear hv
      rw [HM.out]
      go_wp2_with fail
      refine (specWMaj_any _ _ _ _ i3 hvl).mono ?_
      rw [HM.out]
      rintro e w4 ⟨rfl, b4⟩
      have i4 := i3.below b4
      have B4 := below_step B3 b4
      clear i3 B3 b4
      go_wp2_with fail
      refine (implWV_any _ _ _ _ i4 hvl).mono ?_
      rw [HV.out]
      rintro e w5 ⟨rfl, b5⟩
      have B5 := below_step B4 b5
      clear i4 B4 b5
      go_wp2
      go_ret
      exact ⟨rfl, B5⟩
    · have HM := Lib.hid (show majR v = wsum v 63 / 2 + 1 by simp [majR, hv])
      have HS := Lib.hid (sumR_all hv)
      have hr := wsum_rng hv 63
      clear hv
      rw [HM.out]
      generalize wsum v 63 = t at *
      have h0 : (t / 2 + 1 == 0) = false := beq_eq_false_iff_ne.2 (by omega)
      go_wp2_with fail
      refine (allM_any _).mono ?_
      rintro e w4 ⟨A4, c4, rfl, o4, b4⟩
      have i4 := i3.below b4
      have j4 := (IL.of_own o4).1
      have B4 := below_step B3 b4
      have h6 := mem_len 63
      clear i3 B3 b4 o4
      go_wp2_with fail
      refine (implWSum_any _ _ _ _ _ _ _ i4 j4 hvl (by omega)).mono ?_
      rw [HS.out]
      rintro e w5 ⟨rfl, b5⟩
      have B5 := below_step B4 b5
      clear i4 j4 B4 b5
      have hd1 : decide (t < 2 * (t / 2 + 1)) = true := decide_eq_true (by omega)
      have hd2 : decide (2 * (t / 2 + 1 - 1) ≤ t) = true := decide_eq_true (by omega)
      have hd3 : decide (2 * (t / 2) ≤ t) = true := decide_eq_true (by omega)
      go_wp2
      go_ret
      exact ⟨rfl, B5⟩
  · go_enter Try.func7, Try.ntmps7
    go_wp2
    go_ret
    exact ⟨rfl, Below.refl _ _⟩
end Go.Proofs.Ytmkoliebgibecaa
