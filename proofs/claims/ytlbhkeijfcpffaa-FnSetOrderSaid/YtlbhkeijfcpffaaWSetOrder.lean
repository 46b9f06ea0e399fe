/- The walk of the law that a subset has no larger mask. -/
import Derived.Test.YtlbhkeijfcpffaaLaw1
namespace Go.Proofs.Ytlbhkeijfcpffaa
open Go.RowKit

set_option maxHeartbeats 3200000 in
theorem walkSetOrder (A : Option Addr) (c : Nat) (l : List Int) (w : World) (ha : BL w A l) (hc : l.length ≤ c) (hmc : c ≤ maxLen) :
    Calls Try.prog 13 #[.slice A l.length c] w fun e w' => e = .returned (.bool true) ∧ Below w.heap.size w w' := by
  have hm : l.length ≤ maxLen := Nat.le_trans hc hmc
  by_cases hl : l.length ≤ 1048576
  · go_enter Try.func13, Try.ntmps13
    go_wp2_with fail
    refine (drawSetSubset_any _ _ _ _ ha hc hm hmc).mono ?_
    rintro e w1 ⟨a, b, A1, B1, c1, d1, ha7, hb7, rfl, ia, ib, b1⟩
    have Bw1 := b1
    clear b1
    cases hs : subsR a b
    · have HS := Lib.hid hs
      clear hs
      go_wp2_with fail
      refine (implSubset_any _ _ _ _ _ _ _ ia ib (by omega) (by omega)).mono ?_
      rintro e w' ⟨he, rfl⟩
      rw [HS.out] at he
      subst he
      go_wp2_with fail
      refine (specSubset_any _ _ _ _ _ _ _ ia ib (by omega) (by omega)).mono ?_
      rintro e w2 ⟨he, b2⟩
      rw [HS.out] at he
      subst he
      have ia := ia.below b2
      have ib := ib.below b2
      have Bw2 := below_step Bw1 b2
      clear b2 Bw1
      go_wp2_with fail
      refine (specSubset_any _ _ _ _ _ _ _ ia ib (by omega) (by omega)).mono ?_
      rintro e w3 ⟨he, b3⟩
      rw [HS.out] at he
      subst he
      have ia := ia.below b3
      have ib := ib.below b3
      have Bw3 := below_step Bw2 b3
      clear b3 Bw2
      go_wp2
      go_ret
      exact ⟨rfl, Bw3⟩
    · have HS := Lib.hid hs
      clear hs
      go_wp2_with fail
      refine (implSubset_any _ _ _ _ _ _ _ ia ib (by omega) (by omega)).mono ?_
      rintro e w' ⟨he, rfl⟩
      rw [HS.out] at he
      subst he
      go_wp2_with fail
      refine (specSubset_any _ _ _ _ _ _ _ ia ib (by omega) (by omega)).mono ?_
      rintro e w2 ⟨he, b2⟩
      rw [HS.out] at he
      subst he
      have ia := ia.below b2
      have ib := ib.below b2
      have Bw2 := below_step Bw1 b2
      clear b2 Bw1
      obtain ⟨m1, m2⟩ := mask_order HS.out
      obtain ⟨pa, qa⟩ := mskR_rng a
      obtain ⟨pb, qb⟩ := mskR_rng b
      obtain ⟨pd, qd⟩ := mskR_rng (both minus b a)
      have hd1 : decide (mskR a ≤ mskR b) = true := decide_eq_true m1
      have hd2 : (mskR (both minus b a) == mskR b - mskR a) = true := beq_iff_eq.2 m2
      clear m1 m2
      go_wp2_with fail
      refine (implMask_any _ _ _ _ ia (by omega)).mono ?_
      rintro e w' ⟨rfl, rfl⟩
      go_wp2_with fail
      refine (implMask_any _ _ _ _ ib (by omega)).mono ?_
      rintro e w' ⟨rfl, rfl⟩
      go_wp2_with fail
      refine (implMinus_any _ _ _ _ _ _ _ ib ia (by omega) (by omega)).mono ?_
      rintro e w3 ⟨Ax, cx, rfl, ox, b3⟩
      have ia := ia.below b3
      have ib := ib.below b3
      have Bw3 := below_step Bw2 b3
      clear b3 Bw2
      have ix := (IL.of_own ox).1
      clear ox
      go_wp2_with fail
      refine (implMask_any _ _ _ _ ix (bigN _ (by omega))).mono ?_
      rintro e w' ⟨rfl, rfl⟩
      go_wp2_with fail
      refine (implMask_any _ _ _ _ ib (by omega)).mono ?_
      rintro e w' ⟨rfl, rfl⟩
      go_wp2_with fail
      refine (implMask_any _ _ _ _ ia (by omega)).mono ?_
      rintro e w' ⟨rfl, rfl⟩
      go_wp2
      go_ret
      exact ⟨rfl, Bw3⟩
  · go_enter Try.func13, Try.ntmps13
    unfold maxLen at hm
    go_wp2
    go_ret
    exact ⟨rfl, Below.refl _ _⟩
end Go.Proofs.Ytlbhkeijfcpffaa
